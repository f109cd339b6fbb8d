import Derived.Test.YtdnlfacfleemeaaK12
import Derived.Defers
import Derived.Recover
import Derived.Test.YtdnlfacfleemeaaK11
namespace Go.Proofs.Ytdnlfacfleemeaa
open Go.RowKit Go.Lib

theorem eqNil (w : World) : (binOp BinOp.eql 20 .nilIface .nilIface).run Try.prog w = .ok (.bool true) w := by kernel_rfl
theorem eqRef (E : Int) (w : World) : (binOp BinOp.eql 20 (.iface 142 (.agg #[.int .i64 E])) .nilIface).run Try.prog w = .ok (.bool false) w := by kernel_rfl
theorem taRef (v : Value) (w : World) : (Instr.typeAssert (.iface 142 v) 20 142 true).run Try.prog w = .ok (.tuple #[v, .bool true]) w := by kernel_rfl

set_option maxRecDepth 100000 in
theorem catch_idle (p q : Addr) (w : World) :
    CallsD Try.prog 79 #[.pointer (some p), .pointer (some q)] .returning w fun e u' w' => e = .returned (.tuple #[]) ∧ u' = .returning ∧ w' = w := by
  have h1 := eqNil
  refine callsD_of_wpS Try.func79 rfl fun c₀ cs hu => ?_
  apply wpS_seq
  apply wpS_region
  simp [wpOpsS, go_sem, recoverD, hu, Try.ntmps79, Exit.thenS]
  refine wpS_of_wp ?_
  go_wp2
  cases c₀
  simp_all [bodyPostS, results, Try.results79]

theorem ref_fin {w : World} {r2 r3 : Nat} {nm : ByteArray} {ar : Int} {S : Value} {x : Int} (h2 : w.heap[r2]? = some (po nm ar S)) (h3 : w.heap[r3]? = some (.cells #[.int .i64 x] 32 (0, 0))) (hne : r2 ≠ r3) (E : Int) :
    ((((((w.setCell ⟨r2, 0, none⟩ (.string emp)).setCell ⟨r2, 1, none⟩ (.int .i64 0)).setCell ⟨r2, 2, none⟩ (.slice none 0 0)).setCell ⟨r3, 0, none⟩ (.int .i64 E)).alloc (.cells #[.int .i64 E] 142)).drew).heap[r2]? = some (po emp 0 (.slice none 0 0)) ∧ ((((((w.setCell ⟨r2, 0, none⟩ (.string emp)).setCell ⟨r2, 1, none⟩ (.int .i64 0)).setCell ⟨r2, 2, none⟩ (.slice none 0 0)).setCell ⟨r3, 0, none⟩ (.int .i64 E)).alloc (.cells #[.int .i64 E] 142)).drew).heap[r3]? = some (.cells #[.int .i64 E] 32 (0, 0)) ∧ Kept (fun k => k = r2 ∨ k = r3) w ((((((w.setCell ⟨r2, 0, none⟩ (.string emp)).setCell ⟨r2, 1, none⟩ (.int .i64 0)).setCell ⟨r2, 2, none⟩ (.slice none 0 0)).setCell ⟨r3, 0, none⟩ (.int .i64 E)).alloc (.cells #[.int .i64 E] 142)).drew) := by
  have k : Kept (fun k => k = r2 ∨ k = r3) w ((((w.setCell ⟨r2, 0, none⟩ (.string emp)).setCell ⟨r2, 1, none⟩ (.int .i64 0)).setCell ⟨r2, 2, none⟩ (.slice none 0 0)).setCell ⟨r3, 0, none⟩ (.int .i64 E)) :=
    ((((Kept.refl (fun k => k = r2 ∨ k = r3) w).setCell (p := ⟨r2, 0, none⟩) (fun _ => .inl rfl) _).setCell (p := ⟨r2, 1, none⟩) (fun _ => .inl rfl) _).setCell (p := ⟨r2, 2, none⟩) (fun _ => .inl rfl) _).setCell (p := ⟨r3, 0, none⟩) (fun _ => .inr rfl) _
  have b2 : ((((w.setCell ⟨r2, 0, none⟩ (.string emp)).setCell ⟨r2, 1, none⟩ (.int .i64 0)).setCell ⟨r2, 2, none⟩ (.slice none 0 0)).setCell ⟨r3, 0, none⟩ (.int .i64 E)).heap[r2]? = some (po emp 0 (.slice none 0 0)) :=
    (Below.heap_setCell _ _ _ _ hne).trans (set3 h2 _ _ _)
  have b3 : ((((w.setCell ⟨r2, 0, none⟩ (.string emp)).setCell ⟨r2, 1, none⟩ (.int .i64 0)).setCell ⟨r2, 2, none⟩ (.slice none 0 0)).setCell ⟨r3, 0, none⟩ (.int .i64 E)).heap[r3]? = some (.cells #[.int .i64 E] 32 (0, 0)) := by
    have e : (((w.setCell ⟨r2, 0, none⟩ (.string emp)).setCell ⟨r2, 1, none⟩ (.int .i64 0)).setCell ⟨r2, 2, none⟩ (.slice none 0 0)).heap[r3]? = some (.cells #[.int .i64 x] 32 (0, 0)) :=
      (Below.heap_setCell _ _ _ _ hne.symm).trans ((Below.heap_setCell _ _ _ _ hne.symm).trans ((Below.heap_setCell _ _ _ _ hne.symm).trans h3))
    generalize (((w.setCell ⟨r2, 0, none⟩ (.string emp)).setCell ⟨r2, 1, none⟩ (.int .i64 0)).setCell ⟨r2, 2, none⟩ (.slice none 0 0)) = W at e
    simp [World.setCell, Array.getElem?_modify, e]
  exact ⟨(Below.heap_alloc _ _ _ (lt_of b2)).trans b2, (Below.heap_alloc _ _ _ (lt_of b3)).trans b3, (k.alloc _).drew⟩

set_option maxRecDepth 100000 in
set_option maxHeartbeats 4000000 in
theorem catch_ref (r3 r2 : Nat) (nm : ByteArray) (ar : Int) (S : Value) (x E : Int) (w : World) (h2 : w.heap[r2]? = some (po nm ar S)) (h3 : w.heap[r3]? = some (.cells #[.int .i64 x] 32 (0, 0))) :
    CallsD Try.prog 79 #[.pointer (some ⟨r2, 0, none⟩), .pointer (some ⟨r3, 0, none⟩)] (.panicking [{ v := .iface 142 (.agg #[.int .i64 E]), recovered := false }]) w fun e u' w' =>
      e = .returned (.tuple #[]) ∧ u' = .panicking [{ v := .iface 142 (.agg #[.int .i64 E]), recovered := true }] ∧ w'.heap[r2]? = some (po emp 0 (.slice none 0 0)) ∧ w'.heap[r3]? = some (.cells #[.int .i64 E] 32 (0, 0)) ∧ Kept (fun k => k = r2 ∨ k = r3) w w' := by
  have h1 := eqRef E
  have h4 := taRef
  obtain ⟨c0, c1, c2, cz⟩ := vfacts h2
  have d0 : w.cell? ⟨r3, 0, none⟩ = some (.int .i64 x) := by rw [cell_of_row w _ _ _ _ _ h3]; rfl
  have dz : ∀ o, w.frozen? ⟨r3, o, none⟩ = false := fun o => by simp [World.frozen?, h3]
  have k2 := lt_of h2
  have k3 := lt_of h3
  have hne : r2 ≠ r3 := by
    intro e
    rw [e, h3] at h2
    simp at h2
  have H2 := hid h2
  have H3 := hid h3
  clear h2 h3
  refine callsD_of_wpS Try.func79 rfl fun c₀ cs hu => ?_
  apply wpS_seq
  apply wpS_region
  simp [wpOpsS, go_sem, recoverD, hu, Try.ntmps79, Exit.thenS]
  refine wpS_of_wp ?_
  have hT : (#[Value.pointer (some ⟨r2, 0, none⟩), Value.pointer (some ⟨r3, 0, none⟩)] ++ (Array.replicate 12 undef).setIfInBounds 3 (Value.iface 142 (.agg #[.int .i64 E]))) =
    #[Value.pointer (some ⟨r2, 0, none⟩), Value.pointer (some ⟨r3, 0, none⟩), undef, undef, undef, Value.iface 142 (.agg #[.int .i64 E]), undef, undef, undef, undef, undef, undef, undef, undef] := rfl
  rw [hT]
  clear hT
  refine Code.wp_mono NoPanic.imp ?_
  go_wp2
  go_region
  have HF := ref_fin H2.out H3.out hne E
  refine NoPanic.normal (NoPanic.normal ?_)
  exact ⟨rfl, _, rfl, .tuple #[], by simp [results, Try.results79], rfl, rfl, HF⟩

/-- What Decode says of bytes. -/
def decP (bs : List Int) : Except Int (List Int × Int × List Ins) :=
  match tkProc bs with
  | .error E => .error E
  | .ok (nm, ar, xs) => if (procChk (mkStr nm) ar xs).2 = 0 then .ok (nm, ar, xs) else .error (procChk (mkStr nm) ar xs).2

/-- What Decode leaves. -/
def DPost (w : World) (r : Except Int (List Int × Int × List Ins)) (e : Ending) (w' : World) : Prop :=
  Below w.heap.size w w' ∧ match r with
  | .ok (nm, ar, xs) => ∃ cb, e = .returned (.tuple #[.agg #[.string (mkStr nm), .int .i64 ar, .slice (some ⟨cb, 0, none⟩) xs.length xs.length], .int .i64 0]) ∧ w.heap.size ≤ cb ∧ (∃ cs, w'.heap[cb]? = some (.cells cs 52 (0, 0))) ∧ ∀ (j : Nat) (x : Ins), xs[j]? = some x → InsAt w' cb (j * 8) x
  | .error E => e = .returned (.tuple #[.agg #[.string emp, .int .i64 0, .slice none 0 0], .int .i64 E])

theorem dec_door {w w1 : World} (hb : Below ((w.alloc (po emp 0 (.slice none 0 0))).alloc (.cells #[.int .i64 0] 32)).heap.size ((w.alloc (po emp 0 (.slice none 0 0))).alloc (.cells #[.int .i64 0] 32)) w1) :
    w1.heap[w.heap.size]? = some (po emp 0 (.slice none 0 0)) ∧ w1.heap[w.heap.size + 1]? = some (.cells #[.int .i64 0] 32 (0, 0)) ∧ Below w.heap.size w w1 :=
  ⟨blk_of hb (two1 w _ _) (by simp; omega), blk_of hb (two2 w _ _) (by simp), below_on (below2 w _ _) hb⟩

set_option maxRecDepth 100000 in
theorem load30 {w : World} {r : Nat} {E : Int} (hb : w.heap[r]? = some (.cells #[.int .i64 E] 32 (0, 0))) : (loadVar 32 ⟨r, 0, none⟩).run Try.prog w = .ok (.int .i64 E) w := by
  have c0 : w.cell? ⟨r, 0, none⟩ = some (.int .i64 E) := by rw [cell_of_row w _ _ _ _ _ hb]; rfl
  simp [go_sem, c0]

set_option maxRecDepth 100000 in
theorem ret17 {tmps : Array Value} {w : World} {r2 r3 : Nat} {a b c : Value} {E : Int} (h2 : w.heap[r2]? = some (.cells #[a, b, c] 27 (0, 0))) (h3 : w.heap[r3]? = some (.cells #[.int .i64 E] 32 (0, 0)))
    (ht2 : tmps.getD 2 undef = .pointer (some ⟨r2, 0, none⟩) := by rfl) (ht3 : tmps.getD 3 undef = .pointer (some ⟨r3, 0, none⟩) := by rfl) :
    (results Try.f70 tmps).run Try.prog w = .ok (.tuple #[.agg #[a, b, c], .int .i64 E]) w := by
  simp only [Array.getD_eq_getD_getElem?] at ht2 ht3
  simp only [results, Try.results70]
  simp [ht2, ht3, load24 h2, load30 h3, asAddr]

set_option maxRecDepth 100000 in
set_option maxHeartbeats 4000000 in
theorem pdecode_take_no (v : Value) (bs : List Int) (w : World) (h : Sl w v bs) (ho : Oct bs) (hl : bs.length ≤ 1000000000) (E : Int) (hE : tkProc bs = .error E) :
    Calls Try.prog 70 #[v] w (DPost w (.error E)) := by
  have HT := hid (fun W (hW : Sl W v bs) => ptake_any v bs W hW ho hl)
  rw [hE] at HT
  unfold TKPost at HT
  dsimp only at HT
  have HH := hid h
  have hmf : ∀ (fn : Fn) (first cap : Array Value) (w : World), (Instr.makeFunc fn first cap).run Try.prog w = .ok (.func fn first cap) w := fun _ _ _ _ => rfl
  unfold DPost
  dsimp only
  clear h hE
  go_enter_defers Try.func70, Try.ntmps70
  go_wp2_with (first
    | (go_at_call 80
       refine (HT.out _ (HH.out.below (below2 w _ _))).mono ?_
       rintro e w1 ⟨hb1, rfl⟩
       have H1 := hid (dec_door hb1)
       clear hb1))
  refine leaves_cons (f := 79) (args := #[.pointer (some ⟨w.heap.size, 0, none⟩), .pointer (some ⟨w.heap.size + 1, 0, none⟩)]) (by simp) (by simp [go_sem]) ?_
  refine (catch_ref (w.heap.size + 1) w.heap.size emp 0 (.slice none 0 0) 0 E w1 H1.out.1 H1.out.2.1).mono ?_
  rintro e u' w2 ⟨rfl, rfl, h2, h3, hk⟩
  exact ⟨_, ret17 h2 h3, H1.out.2.2.trans (hk.below H1.out.2.2.size (fun k h1 h2 => by omega)), rfl⟩

/-- Behind take: the result's block, the list. -/
structure Dst2 (w W : World) (cb : Nat) (nm : ByteArray) (ar : Int) (xs : List Ins) : Prop where
  r2 : W.heap[w.heap.size]? = some (po nm ar (.slice (some ⟨cb, 0, none⟩) xs.length xs.length))
  r3 : W.heap[w.heap.size + 1]? = some (.cells #[.int .i64 0] 32 (0, 0))
  bk : ∃ cs, W.heap[cb]? = some (.cells cs 52 (0, 0))
  co : ∀ (j : Nat) (x : Ins), xs[j]? = some x → InsAt W cb (j * 8) x
  hb : Below w.heap.size w W
  lt : w.heap.size + 1 < cb

theorem Dst2.below {w W W' : World} {cb : Nat} {nm : ByteArray} {ar : Int} {xs : List Ins} (h : Dst2 w W cb nm ar xs) (hb : Below W.heap.size W W') : Dst2 w W' cb nm ar xs := by
  obtain ⟨cs, hc⟩ := h.bk
  have hl := hb.block _ (lt_of hc)
  exact ⟨blk_of hb h.r2 (lt_of h.r2), blk_of hb h.r3 (lt_of h.r3), ⟨cs, hl.trans hc⟩, fun j x hx => (h.co j x hx).same hl, below_on h.hb hb, h.lt⟩

theorem Dst2.code {w W : World} {cb : Nat} {nm : ByteArray} {ar : Int} {xs : List Ins} (h : Dst2 w W cb nm ar xs) : CodeAt W (.slice (some ⟨cb, 0, none⟩) xs.length xs.length) xs :=
  ⟨_, _, rfl, Nat.le_refl _, fun _ => ⟨cb, 0, rfl, fun j x hx => by rw [Nat.zero_add]; exact h.co j x hx⟩⟩

theorem dst2_start {w w1 : World} {cb : Nat} {nm : ByteArray} {ar : Int} {xs : List Ins} (h1 : w1.heap[w.heap.size]? = some (po emp 0 (.slice none 0 0)) ∧ w1.heap[w.heap.size + 1]? = some (.cells #[.int .i64 0] 32 (0, 0)) ∧ Below w.heap.size w w1)
    (hc : w.heap.size + 1 + 1 ≤ cb) (hk : ∃ cs, w1.heap[cb]? = some (.cells cs 52 (0, 0))) (co : ∀ (j : Nat) (x : Ins), xs[j]? = some x → InsAt w1 cb (j * 8) x) :
    Dst2 w (((w1.setCell ⟨w.heap.size, 0, none⟩ (.string nm)).setCell ⟨w.heap.size, 1, none⟩ (.int .i64 ar)).setCell ⟨w.heap.size, 2, none⟩ (.slice (some ⟨cb, 0, none⟩) xs.length xs.length)) cb nm ar xs := by
  have k : Kept (fun k => k = w.heap.size) w1 (((w1.setCell ⟨w.heap.size, 0, none⟩ (.string nm)).setCell ⟨w.heap.size, 1, none⟩ (.int .i64 ar)).setCell ⟨w.heap.size, 2, none⟩ (.slice (some ⟨cb, 0, none⟩) xs.length xs.length)) :=
    (((Kept.refl (fun k => k = w.heap.size) w1).setCell (p := ⟨w.heap.size, 0, none⟩) (fun _ => rfl) _).setCell (p := ⟨w.heap.size, 1, none⟩) (fun _ => rfl) _).setCell (p := ⟨w.heap.size, 2, none⟩) (fun _ => rfl) _
  obtain ⟨cs, hcs⟩ := hk
  have hl := k.block cb (lt_of hcs) (by omega)
  exact ⟨set3 h1.1 _ _ _, (k.block _ (lt_of h1.2.1) (by omega)).trans h1.2.1, ⟨cs, hl.trans hcs⟩, fun j x hx => (co j x hx).same hl, Below.set3 h1.2.2 (Nat.le_refl _) _ _ _, by omega⟩

theorem Dst2.fin {w W : World} {cb : Nat} {nm : ByteArray} {ar : Int} {xs : List Ins} (h : Dst2 w W cb nm ar xs) :
    ((((W.setCell ⟨w.heap.size, 0, none⟩ (.string nm)).setCell ⟨w.heap.size, 1, none⟩ (.int .i64 ar)).setCell ⟨w.heap.size, 2, none⟩ (.slice (some ⟨cb, 0, none⟩) xs.length xs.length)).setCell ⟨w.heap.size + 1, 0, none⟩ (.int .i64 0)).heap[w.heap.size]? = some (po nm ar (.slice (some ⟨cb, 0, none⟩) xs.length xs.length)) ∧
    ((((W.setCell ⟨w.heap.size, 0, none⟩ (.string nm)).setCell ⟨w.heap.size, 1, none⟩ (.int .i64 ar)).setCell ⟨w.heap.size, 2, none⟩ (.slice (some ⟨cb, 0, none⟩) xs.length xs.length)).setCell ⟨w.heap.size + 1, 0, none⟩ (.int .i64 0)).heap[w.heap.size + 1]? = some (.cells #[.int .i64 0] 32 (0, 0)) ∧
    Below w.heap.size w ((((W.setCell ⟨w.heap.size, 0, none⟩ (.string nm)).setCell ⟨w.heap.size, 1, none⟩ (.int .i64 ar)).setCell ⟨w.heap.size, 2, none⟩ (.slice (some ⟨cb, 0, none⟩) xs.length xs.length)).setCell ⟨w.heap.size + 1, 0, none⟩ (.int .i64 0)) ∧
    (∃ cs, ((((W.setCell ⟨w.heap.size, 0, none⟩ (.string nm)).setCell ⟨w.heap.size, 1, none⟩ (.int .i64 ar)).setCell ⟨w.heap.size, 2, none⟩ (.slice (some ⟨cb, 0, none⟩) xs.length xs.length)).setCell ⟨w.heap.size + 1, 0, none⟩ (.int .i64 0)).heap[cb]? = some (.cells cs 52 (0, 0))) ∧
    ∀ (j : Nat) (x : Ins), xs[j]? = some x → InsAt ((((W.setCell ⟨w.heap.size, 0, none⟩ (.string nm)).setCell ⟨w.heap.size, 1, none⟩ (.int .i64 ar)).setCell ⟨w.heap.size, 2, none⟩ (.slice (some ⟨cb, 0, none⟩) xs.length xs.length)).setCell ⟨w.heap.size + 1, 0, none⟩ (.int .i64 0)) cb (j * 8) x := by
  have k1 : Kept (fun k => k = w.heap.size) W (((W.setCell ⟨w.heap.size, 0, none⟩ (.string nm)).setCell ⟨w.heap.size, 1, none⟩ (.int .i64 ar)).setCell ⟨w.heap.size, 2, none⟩ (.slice (some ⟨cb, 0, none⟩) xs.length xs.length)) :=
    (((Kept.refl (fun k => k = w.heap.size) W).setCell (p := ⟨w.heap.size, 0, none⟩) (fun _ => rfl) _).setCell (p := ⟨w.heap.size, 1, none⟩) (fun _ => rfl) _).setCell (p := ⟨w.heap.size, 2, none⟩) (fun _ => rfl) _
  have b2 := set3 h.r2 (.string nm) (.int .i64 ar) (.slice (some ⟨cb, 0, none⟩) xs.length xs.length)
  have b3 := (k1.block _ (lt_of h.r3) (by omega)).trans h.r3
  have hB := Below.set3 h.hb (Nat.le_refl w.heap.size) (.string nm) (.int .i64 ar) (.slice (some ⟨cb, 0, none⟩) xs.length xs.length)
  obtain ⟨cs, hc⟩ := h.bk
  have hl := h.lt
  have b4 := (k1.block _ (lt_of hc) (by omega)).trans hc
  have hco := fun j x hx => (h.co j x hx).same (k1.block cb (lt_of hc) (by omega))
  generalize (((W.setCell ⟨w.heap.size, 0, none⟩ (.string nm)).setCell ⟨w.heap.size, 1, none⟩ (.int .i64 ar)).setCell ⟨w.heap.size, 2, none⟩ (.slice (some ⟨cb, 0, none⟩) xs.length xs.length)) = V at b2 b3 hB b4 hco
  have e : ∀ k, k ≠ w.heap.size + 1 → (V.setCell ⟨w.heap.size + 1, 0, none⟩ (.int .i64 0)).heap[k]? = V.heap[k]? := fun k hk => Below.heap_setCell _ _ _ _ hk
  refine ⟨(e _ (by omega)).trans b2, ?_, hB.setCell (p := ⟨w.heap.size + 1, 0, none⟩) (by show w.heap.size ≤ w.heap.size + 1; omega) _, ⟨cs, (e _ (by omega)).trans b4⟩, fun j x hx => (hco j x hx).same (e _ (by omega))⟩
  simp [World.setCell, Array.getElem?_modify, b3]

theorem tkCode_len (bs : List Int) (most : Int) : ∀ (n a : Nat) (xs : List Ins) (a2 : Nat), tkCode bs most n a = .ok (xs, a2) → xs.length = n := by
  intro n
  induction n with
  | zero => intro a xs a2 h; simp [tkCode] at h; rw [h.1]; rfl
  | succ n ih =>
    intro a xs a2 h
    rw [tkCode] at h
    split at h
    · cases h
    · split at h
      · cases h
      · rename_i h2
        injection h with h
        injection h with h3 h4
        rw [← h3, List.length_cons, ih _ _ _ h2]

theorem tkProc_len (bs : List Int) (nm : List Int) (ar : Int) (xs : List Ins) (h : tkProc bs = .ok (nm, ar, xs)) : xs.length ≤ 64 := by
  unfold tkProc at h
  split at h
  · split at h
    · rename_i h64
      unfold tkEnd at h
      split at h
      · cases h
      · rename_i ys a hc
        split at h
        · injection h with h
          injection h with h1 h2
          injection h2 with h2 h3
          have := tkCode_len _ _ _ _ _ _ hc
          rw [← h3]
          omega
        · cases h
    · cases h
  · cases h

set_option maxRecDepth 100000 in
set_option maxHeartbeats 4000000 in
theorem pdecode_no (v : Value) (bs : List Int) (w : World) (h : Sl w v bs) (ho : Oct bs) (hl : bs.length ≤ 1000000000) (nm : List Int) (ar : Int) (xs : List Ins) (hT : tkProc bs = .ok (nm, ar, xs)) (E1 E : Int) (hE : procChk (mkStr nm) ar xs = (E1, E)) (hE0 : E ≠ 0) :
    Calls Try.prog 70 #[v] w (DPost w (.error E)) := by
  have HT := hid (fun W (hW : Sl W v bs) => ptake_any v bs W hW ho hl)
  have hlen := tkProc_len bs nm ar xs hT
  rw [hT] at HT
  unfold TKPost at HT
  dsimp only at HT
  have HC := hid (fun S W hW => pcheck_any (mkStr nm) ar S xs W hW (by omega))
  rw [hE] at HC
  dsimp only at HC
  have HH := hid h
  have hmf : ∀ (fn : Fn) (first cap : Array Value) (w : World), (Instr.makeFunc fn first cap).run Try.prog w = .ok (.func fn first cap) w := fun _ _ _ _ => rfl
  unfold DPost
  dsimp only
  clear h hE hT
  go_enter_defers Try.func70, Try.ntmps70
  go_wp2_with (first
    | (go_at_call 80
       refine (HT.out _ (HH.out.below (below2 w _ _))).mono ?_
       rintro e w1 ⟨hb1, cb, rfl, hcb, hk1, hco⟩
       have H1 := hid (dst2_start (nm := mkStr nm) (ar := ar) (dec_door hb1) (by simpa using hcb) hk1 hco)
       obtain ⟨c0, c1, c2, cz⟩ := vfacts (dec_door hb1).1
       clear hb1 hcb hk1 hco)
    | (go_at_call 40
       refine (HC.out _ _ H1.out.code).mono ?_
       rintro e w2 ⟨rfl, hb2⟩
       have H2 := hid (H1.out.below hb2)
       clear hb2)
    | (go_at_call 81; refine (insist_no E hE0 _).mono ?_; rintro e w3 ⟨rfl, e3⟩; rw [e3]; clear e3 w3))
  refine leaves_cons (f := 79) (args := #[.pointer (some ⟨w.heap.size, 0, none⟩), .pointer (some ⟨w.heap.size + 1, 0, none⟩)]) (by simp) (by simp [go_sem]) ?_
  refine (catch_ref (w.heap.size + 1) w.heap.size _ _ _ 0 E w2 H2.out.r2 H2.out.r3).mono ?_
  rintro e u' w4 ⟨rfl, rfl, h2, h3, hk⟩
  exact ⟨_, ret17 h2 h3, H2.out.hb.trans (hk.below H2.out.hb.size (fun k h1 h2 => by omega)), rfl⟩

set_option maxRecDepth 100000 in
set_option maxHeartbeats 4000000 in
theorem pdecode_ok (v : Value) (bs : List Int) (w : World) (h : Sl w v bs) (ho : Oct bs) (hl : bs.length ≤ 1000000000) (nm : List Int) (ar : Int) (xs : List Ins) (hT : tkProc bs = .ok (nm, ar, xs)) (E1 : Int) (hE : procChk (mkStr nm) ar xs = (E1, 0)) :
    Calls Try.prog 70 #[v] w (DPost w (.ok (nm, ar, xs))) := by
  have HT := hid (fun W (hW : Sl W v bs) => ptake_any v bs W hW ho hl)
  have hlen := tkProc_len bs nm ar xs hT
  rw [hT] at HT
  unfold TKPost at HT
  dsimp only at HT
  have HC := hid (fun S W hW => pcheck_any (mkStr nm) ar S xs W hW (by omega))
  rw [hE] at HC
  dsimp only at HC
  have HH := hid h
  have hmf : ∀ (fn : Fn) (first cap : Array Value) (w : World), (Instr.makeFunc fn first cap).run Try.prog w = .ok (.func fn first cap) w := fun _ _ _ _ => rfl
  unfold DPost
  dsimp only
  clear h hE hT
  go_enter_defers Try.func70, Try.ntmps70
  go_wp2_with (first
    | (go_at_call 80
       refine (HT.out _ (HH.out.below (below2 w _ _))).mono ?_
       rintro e w1 ⟨hb1, cb, rfl, hcb, hk1, hco⟩
       have H1 := hid (dst2_start (nm := mkStr nm) (ar := ar) (dec_door hb1) (by simpa using hcb) hk1 hco)
       obtain ⟨c0, c1, c2, cz⟩ := vfacts (dec_door hb1).1
       clear hb1 hcb hk1 hco)
    | (go_at_call 40
       refine (HC.out _ _ H1.out.code).mono ?_
       rintro e w2 ⟨rfl, hb2⟩
       have H2 := hid (H1.out.below hb2)
       obtain ⟨c0, c1, c2, cz⟩ := vfacts H2.out.r2
       have d0 : w2.cell? ⟨w.heap.size + 1, 0, none⟩ = some (.int .i64 0) := by rw [cell_of_row w2 _ _ _ _ _ H2.out.r3]; rfl
       have dz : ∀ o, w2.frozen? ⟨w.heap.size + 1, o, none⟩ = false := fun o => by simp [World.frozen?, H2.out.r3]
       clear hb2)
    | (go_at_call 81; refine (insist_ok _).mono ?_; rintro e w3 ⟨rfl, e3⟩; rw [e3]; clear e3 w3))
  refine leaves_cons (f := 79) (args := #[.pointer (some ⟨w.heap.size, 0, none⟩), .pointer (some ⟨w.heap.size + 1, 0, none⟩)]) (by simp) (by simp [go_sem]) ?_
  refine (catch_idle _ _ _).mono ?_
  rintro e u' w4 ⟨rfl, rfl, rfl⟩
  obtain ⟨f1, f2, f3, f4, f5⟩ := H2.out.fin
  exact ⟨_, ret17 f1 f2, f3, cb, rfl, by have := H2.out.lt; omega, f4, f5⟩

theorem pdecode_any (v : Value) (bs : List Int) (w : World) (h : Sl w v bs) (ho : Oct bs) (hl : bs.length ≤ 1000000000) : Calls Try.prog 70 #[v] w (DPost w (decP bs)) := by
  unfold decP
  cases hT : tkProc bs with
  | error E => exact pdecode_take_no v bs w h ho hl E hT
  | ok r =>
    obtain ⟨nm, ar, xs⟩ := r
    obtain ⟨E1, E, hE⟩ : ∃ R1 R2, procChk (mkStr nm) ar xs = (R1, R2) := ⟨_, _, rfl⟩
    dsimp only
    rw [hE]
    dsimp only
    by_cases h0 : E = 0
    · subst h0
      rw [if_pos rfl]
      exact pdecode_ok v bs w h ho hl nm ar xs hT E1 hE
    · rw [if_neg h0]
      exact pdecode_no v bs w h ho hl nm ar xs hT E1 E hE h0

end Go.Proofs.Ytdnlfacfleemeaa

namespace Go.Proofs.Ytdnlfacfleemeaa
open Go.RowKit

theorem take_num (ps rest : List Int) (v : Int) (h0 : 0 ≤ v) (h1 : v < 9223372036854775808) : takeZ 1 0 (ps ++ (rowF 10 v ++ rest)) ps.length 0 = ((v, []), ps.length + (rowF 10 v).length, 0) :=
  takeZ_laid 1 0 ps (rowF 10 v) rest v (by decide) (lead_num 1 (.inl rfl) v 0 rest h0 h1)

theorem take_byte (ps rest : List Int) (v : Int) (h0 : 0 ≤ v) (h1 : v < 256) : takeZ 0 1 (ps ++ ([v] ++ rest)) ps.length 0 = ((v, []), ps.length + 1, 0) := by
  have h := lead_fix v 1 rest h0 (by decide) (by decide)
  have e : fixedB (1 : Int).toNat v = [v] := by simp [fixedB, List.range_succ]; omega
  have e2 : v % 256 ^ (1 : Int).toNat = v := by simp; omega
  rw [e, e2] at h
  exact takeZ_laid 0 1 ps [v] rest v (by decide) h

theorem tkf_laid (f : Fk) (ps rest : List Int) (v : Int) (h0 : 0 ≤ v) (h1 : v < 256) : tkf f (ps ++ (fldV f v ++ rest)) ps.length = ((v, []), ps.length + (fldV f v).length, 0) := by
  have hb := take_byte ps rest v h0 h1
  have hn := take_num ps rest v h0 (by omega)
  cases f
  · exact hb
  · exact hb
  · exact hb
  · exact hn
  · exact hn
  · exact hn
  · exact hn

/-- What is struck out of x outside the fields fs. -/
theorem tkFs_laid (y : Ins) : ∀ (fs : List Fk) (x : Ins) (ps rest : List Int), (∀ f ∈ fs, 0 ≤ f.get y ∧ f.get y < 256) →
    tkFs (ps ++ (fs.flatMap (fun f => fldV f (f.get y)) ++ rest)) fs x ps.length = .ok (fs.foldl (fun x f => f.set (f.get y) x) x, ps.length + (fs.flatMap (fun f => fldV f (f.get y))).length) := by
  intro fs
  induction fs with
  | nil => intro x ps rest _; simp [tkFs]
  | cons f fs ih =>
    intro x ps rest h
    have hf := h f (by simp)
    have e : ps ++ ((f :: fs).flatMap (fun f => fldV f (f.get y)) ++ rest) = ps ++ (fldV f (f.get y) ++ (fs.flatMap (fun f => fldV f (f.get y)) ++ rest)) := by simp [List.append_assoc]
    rw [tkFs, e, tkf_laid f ps _ _ hf.1 hf.2]
    dsimp only
    rw [if_pos rfl]
    have e2 : ps ++ (fldV f (f.get y) ++ (fs.flatMap (fun f => fldV f (f.get y)) ++ rest)) = (ps ++ fldV f (f.get y)) ++ (fs.flatMap (fun f => fldV f (f.get y)) ++ rest) := by simp [List.append_assoc]
    have e3 : ps.length + (fldV f (f.get y)).length = (ps ++ fldV f (f.get y)).length := by rw [List.length_append]
    rw [e2, e3, ih _ _ _ (fun g hg => h g (by simp [hg]))]
    simp [Nat.add_assoc]

/-- A checked instruction has nothing beside its fields. -/
theorem fields_only (ar bh : Int) (fs : List Fk) (vv : Bool) (x : Ins) (h : opErr fs vv x ar bh = 0) (hd : (fs.map Fk.pos).Nodup) :
    ∃ z : Ins, chkF ar bh fs x = some z ∧ z.a = 0 ∧ z.b = 0 ∧ z.c = 0 ∧ z.n = 0 ∧ (vv = true ∨ x.k = 0 ∧ x.i = 0 ∧ x.t = emp) ∧ chk x.k x.i x.t = 0 := by
  have _ := hd
  unfold opErr at h
  cases hc : chkF ar bh fs x with
  | none => rw [hc] at h; simp at h
  | some z =>
    rw [hc] at h
    dsimp only at h
    have hk : ∀ (fs : List Fk) (x z : Ins), chkF ar bh fs x = some z → z.k = x.k ∧ z.i = x.i ∧ z.t = x.t := by
      intro fs
      induction fs with
      | nil => intro x z h; rw [chkF] at h; injection h with h; rw [h]; exact ⟨rfl, rfl, rfl⟩
      | cons f fs ih =>
        intro x z h
        rw [chkF] at h
        split at h
        · obtain ⟨e1, e2, e3⟩ := ih _ _ h
          obtain ⟨_, r2, r3, r4⟩ := fk_rest f 0 x
          exact ⟨e1.trans r2, e2.trans r3, e3.trans r4⟩
        · cases h
    obtain ⟨k1, k2, k3⟩ := hk fs x z hc
    split at h
    · rename_i hz
      refine ⟨z, rfl, hz.1, hz.2.1, hz.2.2.1, hz.2.2.2.1, ?_, h⟩
      rw [k1, k2, k3] at hz
      exact hz.2.2.2.2
    · omega

/-- The fields put back. -/
theorem fold_back (i : Nat) (x : Ins) (ar bh : Int) (z : Ins) (h : chkF ar bh (opF i) x = some z) (ha : z.a = 0) (hb : z.b = 0) (hc : z.c = 0) (hn : z.n = 0) (op k j : Int) (t : ByteArray) :
    (opF i).foldl (fun y f => f.set (f.get x) y) ⟨op, 0, 0, 0, 0, k, j, t⟩ = ⟨op, x.a, x.b, x.c, x.n, k, j, t⟩ := by
  unfold opF at h ⊢
  split at h
  all_goals (
    simp only [chkF] at h
    repeat' split at h
    all_goals first | (cases h; done) | skip
    injection h with h
    subst h
    (try simp only [Fk.set] at ha hb hc hn)
    simp [List.foldl, Fk.get, Fk.set, ha, hb, hc, hn])

theorem tkVal_laid (most : Int) (ps rest : List Int) (k i : Int) (s : ByteArray) (h0 : -9223372036854775808 ≤ i) (h1 : i < 9223372036854775808) (hc : chk k i s = 0) (hm : ((encB k i s).length : Int) ≤ most) :
    tkVal (ps ++ (rowF 10 ((encB k i s).length : Nat) ++ (encB k i s ++ rest))) most ps.length = .ok ((k, i, strBs s), ps.length + ((rowF 10 ((encB k i s).length : Nat)).length + (encB k i s).length)) := by
  have hl := (encB_len k i s hc h0 h1).1
  have e := takeZ_text most ps (encB k i s) rest hm (by omega)
  unfold tkVal
  rw [e]
  dsimp only
  rw [if_pos rfl, dec_enc k i s h0 h1 hc]
  dsimp only
  rw [if_pos rfl]

theorem insBx_eq (x : Ins) : insBx x = [x.op] ++ ((opF (opN x.op)).flatMap (fun f => fldV f (f.get x)) ++ (if (opN x.op == 1) = true then valB x else [])) := by
  unfold insBx insB
  rw [List.append_assoc]

theorem tkIns_laid (most : Int) (ps rest : List Int) (x : Ins) (ar bh : Int) (he : insErr x ar bh = 0) (a0 : 0 ≤ ar) (a1 : ar ≤ 16) (hb : bh ≤ 200) (hi : InsOk x) (hm : ((insBx x).length : Int) ≤ most) :
    tkIns (ps ++ (insBx x ++ rest)) most ps.length = .ok (x, ps.length + (insBx x).length) := by
  obtain ⟨hop, hf, hc⟩ := good_ins x ar bh he a0 a1 hb
  have he2 := he
  unfold insErr at he2
  rw [if_pos hop] at he2
  obtain ⟨z, hz, za, zb, zc, zn, hv, _⟩ := fields_only ar bh _ _ x he2 (opF_nodup _)
  rw [insBx_eq] at hm ⊢
  have e1 : ps ++ ([x.op] ++ ((opF (opN x.op)).flatMap (fun f => fldV f (f.get x)) ++ (if (opN x.op == 1) = true then valB x else [])) ++ rest) = ps ++ ([x.op] ++ ((opF (opN x.op)).flatMap (fun f => fldV f (f.get x)) ++ ((if (opN x.op == 1) = true then valB x else []) ++ rest))) := by simp [List.append_assoc]
  have e2 : ps ++ ([x.op] ++ ((opF (opN x.op)).flatMap (fun f => fldV f (f.get x)) ++ ((if (opN x.op == 1) = true then valB x else []) ++ rest))) = (ps ++ [x.op]) ++ ((opF (opN x.op)).flatMap (fun f => fldV f (f.get x)) ++ ((if (opN x.op == 1) = true then valB x else []) ++ rest)) := by simp [List.append_assoc]
  have e3 : (ps ++ [x.op]) ++ ((opF (opN x.op)).flatMap (fun f => fldV f (f.get x)) ++ ((if (opN x.op == 1) = true then valB x else []) ++ rest)) = (ps ++ [x.op] ++ (opF (opN x.op)).flatMap (fun f => fldV f (f.get x))) ++ ((if (opN x.op == 1) = true then valB x else []) ++ rest) := by simp [List.append_assoc]
  have t1 := take_byte ps ((opF (opN x.op)).flatMap (fun f => fldV f (f.get x)) ++ ((if (opN x.op == 1) = true then valB x else []) ++ rest)) x.op (by omega) (by omega)
  have t2 := tkFs_laid x (opF (opN x.op)) (zIns x.op) (ps ++ [x.op]) ((if (opN x.op == 1) = true then valB x else []) ++ rest) hf
  unfold tkIns
  rw [e1, t1]
  dsimp only
  rw [if_pos rfl, if_pos hop, e2, show ps.length + 1 = (ps ++ [x.op]).length by simp, t2]
  have e4 : (opF (opN x.op)).foldl (fun y f => f.set (f.get x) y) (zIns x.op) = ⟨x.op, x.a, x.b, x.c, x.n, 0, 0, emp⟩ := fold_back _ x ar bh z hz za zb zc zn x.op 0 0 emp
  rw [e4]
  unfold tkAfter
  dsimp only
  by_cases hv1 : (opN x.op == 1) = true
  · rw [if_pos hv1]
    have hlen : ((encB x.k x.i x.t).length : Int) ≤ most := by
      rw [if_pos hv1] at hm
      simp only [valB, List.length_append] at hm
      omega
    have t3 := tkVal_laid most (ps ++ [x.op] ++ (opF (opN x.op)).flatMap (fun f => fldV f (f.get x))) rest x.k x.i x.t hi.1 hi.2 hc hlen
    rw [e3, if_pos hv1]
    have e5 : valB x ++ rest = rowF 10 ((encB x.k x.i x.t).length : Nat) ++ (encB x.k x.i x.t ++ rest) := by simp [valB, List.append_assoc]
    rw [e5, show (ps ++ [x.op]).length + ((opF (opN x.op)).flatMap (fun f => fldV f (f.get x))).length = (ps ++ [x.op] ++ (opF (opN x.op)).flatMap (fun f => fldV f (f.get x))).length from List.length_append.symm, t3]
    dsimp only
    rw [mkStr_strBs]
    congr 2
    simp [valB]
    omega
  · rw [if_neg hv1, if_neg hv1]
    rcases hv with hv | ⟨v1, v2, v3⟩
    · exact absurd hv hv1
    · congr 2
      · obtain ⟨o, a, b, c, n, k, i, t⟩ := x
        dsimp only at v1 v2 v3 ⊢
        rw [v1, v2, v3]
      · simp
        omega

theorem tkCode_laid (most : Int) (ar : Int) (len : Nat) (a0 : 0 ≤ ar) (a1 : ar ≤ 16) (hl : len ≤ 64) : ∀ (xs : List Ins) (j : Nat) (ps rest : List Int), (∀ (q : Nat) (x : Ins), xs[q]? = some x → insErr x ar ((len : Int) - 1 - (j + q : Nat)) = 0) → (∀ x ∈ xs, InsOk x) → (∀ x ∈ xs, ((insBx x).length : Int) ≤ most) →
    tkCode (ps ++ (xs.flatMap insBx ++ rest)) most xs.length ps.length = .ok (xs, ps.length + (xs.flatMap insBx).length) := by
  intro xs
  induction xs with
  | nil => intro j ps rest _ _ _; simp [tkCode]
  | cons x xs ih =>
    intro j ps rest he hi hm
    have e : ps ++ ((x :: xs).flatMap insBx ++ rest) = ps ++ (insBx x ++ (xs.flatMap insBx ++ rest)) := by simp [List.append_assoc]
    have t := tkIns_laid most ps (xs.flatMap insBx ++ rest) x ar _ (he 0 x (by simp)) a0 a1 (by omega) (hi x (by simp)) (hm x (by simp))
    rw [List.length_cons, tkCode, e, t]
    dsimp only
    have e2 : ps ++ (insBx x ++ (xs.flatMap insBx ++ rest)) = (ps ++ insBx x) ++ (xs.flatMap insBx ++ rest) := by simp [List.append_assoc]
    have e3 : ps.length + (insBx x).length = (ps ++ insBx x).length := by rw [List.length_append]
    rw [e2, e3, ih (j + 1) _ _ (fun q y hy => by have := he (q + 1) y (by simpa using hy); rw [show j + 1 + q = j + (q + 1) by omega]; exact this) (fun y hy => hi y (by simp [hy])) (fun y hy => hm y (by simp [hy]))]
    dsimp only
    simp [Nat.add_assoc]

theorem flat_mem_len (xs : List Ins) (x : Ins) (h : x ∈ xs) : (insBx x).length ≤ (xs.flatMap insBx).length := by
  induction xs with
  | nil => simp at h
  | cons y xs ih =>
    rw [List.flatMap_cons, List.length_append]
    rcases List.mem_cons.1 h with rfl | h
    · omega
    · have := ih h; omega

/-- There and back: P6.4. -/
theorem dec_procB (nm : ByteArray) (ar : Int) (xs : List Ins) (hg : (procChk nm ar xs).2 = 0) (hi : ∀ x ∈ xs, InsOk x) : decP (procB nm ar xs) = .ok (strBs nm, ar, xs) := by
  have g := good_of hg
  have hsz := g.size
  have hsl := strBs_len nm
  have hlen := g.len
  have hbl : ∀ x ∈ xs, ((insBx x).length : Int) ≤ ((procB nm ar xs).length : Int) := by
    intro x hx
    have := flat_mem_len xs x hx
    unfold procB
    simp only [List.length_append]
    omega
  have t1 := takeZ_text 32 [] (strBs nm) (rowF 10 ar ++ (rowF 10 (xs.length : Int) ++ (xs.flatMap insBx ++ []))) (by omega) (by omega)
  have t2 := take_num (rowF 10 (strBs nm).length ++ strBs nm) (rowF 10 (xs.length : Int) ++ (xs.flatMap insBx ++ [])) ar g.a0 (by have := g.a1; omega)
  have t3 := take_num (rowF 10 (strBs nm).length ++ strBs nm ++ rowF 10 ar) (xs.flatMap insBx ++ []) (xs.length : Int) (by omega) (by omega)
  have t4 := tkCode_laid ((procB nm ar xs).length : Int) ar xs.length g.a0 g.a1 hlen xs 0 (rowF 10 (strBs nm).length ++ strBs nm ++ rowF 10 ar ++ rowF 10 (xs.length : Int)) [] (fun q x hx => by rw [Nat.zero_add]; exact g.ins q x hx) hi hbl
  have eB : ∀ a b : List Int, procB nm ar xs = a → procB nm ar xs = b → a = b := fun a b h1 h2 => h1.symm.trans h2
  have p1 : procB nm ar xs = [] ++ (rowF 10 (strBs nm).length ++ (strBs nm ++ (rowF 10 ar ++ (rowF 10 (xs.length : Int) ++ (xs.flatMap insBx ++ []))))) := by unfold procB; simp [List.append_assoc]
  have p2 : procB nm ar xs = (rowF 10 (strBs nm).length ++ strBs nm) ++ (rowF 10 ar ++ (rowF 10 (xs.length : Int) ++ (xs.flatMap insBx ++ []))) := by unfold procB; simp [List.append_assoc]
  have p3 : procB nm ar xs = (rowF 10 (strBs nm).length ++ strBs nm ++ rowF 10 ar) ++ (rowF 10 (xs.length : Int) ++ (xs.flatMap insBx ++ [])) := by unfold procB; simp [List.append_assoc]
  have p4 : procB nm ar xs = (rowF 10 (strBs nm).length ++ strBs nm ++ rowF 10 ar ++ rowF 10 (xs.length : Int)) ++ (xs.flatMap insBx ++ []) := by unfold procB; simp [List.append_assoc]
  rw [← p1] at t1
  rw [← p2] at t2
  rw [← p3] at t3
  rw [← p4] at t4
  have q2 : ([] : List Int).length + ((rowF 10 ((strBs nm).length : Int)).length + (strBs nm).length) = (rowF 10 (strBs nm).length ++ strBs nm).length := by simp
  have q3 : (rowF 10 ((strBs nm).length : Int) ++ strBs nm).length + (rowF 10 ar).length = (rowF 10 (strBs nm).length ++ strBs nm ++ rowF 10 ar).length := by simp; omega
  have q4 : (rowF 10 ((strBs nm).length : Int) ++ strBs nm ++ rowF 10 ar).length + (rowF 10 (xs.length : Int)).length = (rowF 10 (strBs nm).length ++ strBs nm ++ rowF 10 ar ++ rowF 10 (xs.length : Int)).length := by simp; omega
  have hT : tkProc (procB nm ar xs) = .ok (strBs nm, ar, xs) := by
    unfold tkProc
    rw [show takeZ 3 32 (procB nm ar xs) 0 0 = _ from t1]
    dsimp only
    rw [q2, t2]
    dsimp only
    rw [q3, t3]
    dsimp only
    rw [if_pos rfl, if_pos (by omega), Int.toNat_natCast, q4, t4]
    unfold tkEnd
    dsimp only
    have hE : endZ (procB nm ar xs).length ((rowF 10 (strBs nm).length ++ strBs nm ++ rowF 10 ar ++ rowF 10 (xs.length : Int)).length + (xs.flatMap insBx).length) 0 = 0 := by
      unfold endZ
      rw [if_pos rfl, if_neg]
      rw [p4]
      simp
      omega
    rw [hE, if_pos rfl]
  unfold decP
  rw [hT]
  dsimp only
  rw [mkStr_strBs, if_pos hg]

end Go.Proofs.Ytdnlfacfleemeaa
