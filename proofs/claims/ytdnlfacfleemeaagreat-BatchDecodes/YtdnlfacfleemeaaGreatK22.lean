import Derived.Test.YtdnlfacfleemeaaGreatK21
import Derived.Test.YtdnlfacfleemeaaGreatK15
import Derived.Test.YtdnlfacfleemeaaGreatK18
import Derived.Test.YtdnlfacfleemeaaGreatK19
namespace Go.Proofs.YtdnlfacfleemeaaGreat
open Go.RowKit Go.Lib

theorem beqRef (E : Int) (w : World) : (binOp BinOp.eql 20 (.iface 70 (.agg #[.int .i64 E])) .nilIface).run Tryz.prog w = .ok (.bool false) w := by kernel_rfl
theorem btaRef (v : Value) (w : World) : (Instr.typeAssert (.iface 70 v) 20 70 true).run Tryz.prog w = .ok (.tuple #[v, .bool true]) w := by kernel_rfl

set_option maxRecDepth 100000 in
theorem bcatch_idle (p q : Addr) (w : World) :
    CallsD Tryz.prog 26 #[.pointer (some p), .pointer (some q)] .returning w fun e u' w' => e = .returned (.tuple #[]) ∧ u' = .returning ∧ w' = w := by
  have h1 := eqNil
  refine callsD_of_wpS Tryz.func26 rfl fun c₀ cs hu => ?_
  apply wpS_seq
  apply wpS_region
  simp [wpOpsS, go_sem, recoverD, hu, Tryz.ntmps26, Exit.thenS]
  refine wpS_of_wp ?_
  go_wp2
  cases c₀
  simp_all [bodyPostS, results, Tryz.results26]

theorem bref_fin {w : World} {r2 r3 : Nat} {f : Int} {S : Value} {x : Int} (h2 : w.heap[r2]? = some (bo f S)) (h3 : w.heap[r3]? = some (.cells #[.int .i64 x] 33 (0, 0))) (hne : r2 ≠ r3) (E : Int) :
    (((((w.setCell ⟨r2, 0, none⟩ (.int .i64 0)).setCell ⟨r2, 1, none⟩ (.slice none 0 0)).setCell ⟨r3, 0, none⟩ (.int .i64 E)).alloc (.cells #[.int .i64 E] 70)).drew).heap[r2]? = some (bo 0 (.slice none 0 0)) ∧ (((((w.setCell ⟨r2, 0, none⟩ (.int .i64 0)).setCell ⟨r2, 1, none⟩ (.slice none 0 0)).setCell ⟨r3, 0, none⟩ (.int .i64 E)).alloc (.cells #[.int .i64 E] 70)).drew).heap[r3]? = some (.cells #[.int .i64 E] 33 (0, 0)) ∧ Kept (fun k => k = r2 ∨ k = r3) w (((((w.setCell ⟨r2, 0, none⟩ (.int .i64 0)).setCell ⟨r2, 1, none⟩ (.slice none 0 0)).setCell ⟨r3, 0, none⟩ (.int .i64 E)).alloc (.cells #[.int .i64 E] 70)).drew) := by
  have k : Kept (fun k => k = r2 ∨ k = r3) w (((w.setCell ⟨r2, 0, none⟩ (.int .i64 0)).setCell ⟨r2, 1, none⟩ (.slice none 0 0)).setCell ⟨r3, 0, none⟩ (.int .i64 E)) :=
    (((Kept.refl (fun k => k = r2 ∨ k = r3) w).setCell (p := ⟨r2, 0, none⟩) (fun _ => .inl rfl) _).setCell (p := ⟨r2, 1, none⟩) (fun _ => .inl rfl) _).setCell (p := ⟨r3, 0, none⟩) (fun _ => .inr rfl) _
  have b0 : ((w.setCell ⟨r2, 0, none⟩ (.int .i64 0)).setCell ⟨r2, 1, none⟩ (.slice none 0 0)).heap[r2]? = some (bo 0 (.slice none 0 0)) := by simp [World.setCell, Array.getElem?_modify, h2]
  have b2 : (((w.setCell ⟨r2, 0, none⟩ (.int .i64 0)).setCell ⟨r2, 1, none⟩ (.slice none 0 0)).setCell ⟨r3, 0, none⟩ (.int .i64 E)).heap[r2]? = some (bo 0 (.slice none 0 0)) := (Below.heap_setCell _ _ _ _ hne).trans b0
  have b3 : (((w.setCell ⟨r2, 0, none⟩ (.int .i64 0)).setCell ⟨r2, 1, none⟩ (.slice none 0 0)).setCell ⟨r3, 0, none⟩ (.int .i64 E)).heap[r3]? = some (.cells #[.int .i64 E] 33 (0, 0)) := by
    have e : ((w.setCell ⟨r2, 0, none⟩ (.int .i64 0)).setCell ⟨r2, 1, none⟩ (.slice none 0 0)).heap[r3]? = some (.cells #[.int .i64 x] 33 (0, 0)) :=
      (Below.heap_setCell _ _ _ _ hne.symm).trans ((Below.heap_setCell _ _ _ _ hne.symm).trans h3)
    generalize ((w.setCell ⟨r2, 0, none⟩ (.int .i64 0)).setCell ⟨r2, 1, none⟩ (.slice none 0 0)) = W at e
    simp [World.setCell, Array.getElem?_modify, e]
  exact ⟨(Below.heap_alloc _ _ _ (lt_of b2)).trans b2, (Below.heap_alloc _ _ _ (lt_of b3)).trans b3, (k.alloc _).drew⟩

set_option maxRecDepth 100000 in
set_option maxHeartbeats 4000000 in
theorem bcatch_ref (r3 r2 : Nat) (f : Int) (S : Value) (x E : Int) (w : World) (h2 : w.heap[r2]? = some (bo f S)) (h3 : w.heap[r3]? = some (.cells #[.int .i64 x] 33 (0, 0))) :
    CallsD Tryz.prog 26 #[.pointer (some ⟨r2, 0, none⟩), .pointer (some ⟨r3, 0, none⟩)] (.panicking [{ v := .iface 70 (.agg #[.int .i64 E]), recovered := false }]) w fun e u' w' =>
      e = .returned (.tuple #[]) ∧ u' = .panicking [{ v := .iface 70 (.agg #[.int .i64 E]), recovered := true }] ∧ w'.heap[r2]? = some (bo 0 (.slice none 0 0)) ∧ w'.heap[r3]? = some (.cells #[.int .i64 E] 33 (0, 0)) ∧ Kept (fun k => k = r2 ∨ k = r3) w w' := by
  have h1 := beqRef E
  have h4 := btaRef
  obtain ⟨c0, c1, cz⟩ := vfacts2 h2
  have d0 : w.cell? ⟨r3, 0, none⟩ = some (.int .i64 x) := by rw [cell_of_row w _ _ _ _ _ h3]; rfl
  have dz : ∀ o, w.frozen? ⟨r3, o, none⟩ = false := fun o => by simp [World.frozen?, h3]
  have k2 := lt_of h2
  have k3 := lt_of h3
  have hne : r2 ≠ r3 := by
    intro e
    rw [e, h3] at h2
    simp at h2
  have H2 := hid h2
  have H3 := hid h3
  clear h2 h3
  refine callsD_of_wpS Tryz.func26 rfl fun c₀ cs hu => ?_
  apply wpS_seq
  apply wpS_region
  simp [wpOpsS, go_sem, recoverD, hu, Tryz.ntmps26, Exit.thenS]
  refine wpS_of_wp ?_
  have hT : (#[Value.pointer (some ⟨r2, 0, none⟩), Value.pointer (some ⟨r3, 0, none⟩)] ++ (Array.replicate 12 undef).setIfInBounds 3 (Value.iface 70 (.agg #[.int .i64 E]))) =
    #[Value.pointer (some ⟨r2, 0, none⟩), Value.pointer (some ⟨r3, 0, none⟩), undef, undef, undef, Value.iface 70 (.agg #[.int .i64 E]), undef, undef, undef, undef, undef, undef, undef, undef] := rfl
  rw [hT]
  clear hT
  refine Code.wp_mono NoPanic.imp ?_
  go_wp2
  go_region
  have HF := bref_fin H2.out H3.out hne E
  refine NoPanic.normal (NoPanic.normal ?_)
  exact ⟨rfl, _, rfl, .tuple #[], by simp [results, Tryz.results26], rfl, rfl, HF⟩

/-- What Decode leaves. -/
def DB (w : World) (r : Except Int (Int × List Txd)) (e : Ending) (w' : World) : Prop :=
  Below w.heap.size w w' ∧ match r with
  | .ok (f, ts) => ∃ S, e = .returned (.tuple #[.agg #[.int .i64 f, S], .int .i64 0]) ∧ TsAt w.heap.size w' S ts
  | .error E => e = .returned (.tuple #[.agg #[.int .i64 0, .slice none 0 0], .int .i64 E])

theorem bdoor {w w1 : World} (hb : Below ((w.alloc (bo 0 (.slice none 0 0))).alloc (.cells #[.int .i64 0] 33)).heap.size ((w.alloc (bo 0 (.slice none 0 0))).alloc (.cells #[.int .i64 0] 33)) w1) :
    w1.heap[w.heap.size]? = some (bo 0 (.slice none 0 0)) ∧ w1.heap[w.heap.size + 1]? = some (.cells #[.int .i64 0] 33 (0, 0)) ∧ Below w.heap.size w w1 :=
  ⟨blk_of hb (two1 w _ _) (by simp; omega), blk_of hb (two2 w _ _) (by simp), below_on (below2 w _ _) hb⟩

set_option maxRecDepth 100000 in
theorem bload32 {w : World} {r : Nat} {E : Int} (hb : w.heap[r]? = some (.cells #[.int .i64 E] 33 (0, 0))) : (loadVar 33 ⟨r, 0, none⟩).run Tryz.prog w = .ok (.int .i64 E) w := by
  have c0 : w.cell? ⟨r, 0, none⟩ = some (.int .i64 E) := by rw [cell_of_row w _ _ _ _ _ hb]; rfl
  simp [go_sem, c0]

set_option maxRecDepth 100000 in
theorem ret10 {tmps : Array Value} {w : World} {r2 r3 : Nat} {a b : Value} {E : Int} (h2 : w.heap[r2]? = some (.cells #[a, b] 24 (0, 0))) (h3 : w.heap[r3]? = some (.cells #[.int .i64 E] 33 (0, 0)))
    (ht2 : tmps.getD 2 undef = .pointer (some ⟨r2, 0, none⟩) := by rfl) (ht3 : tmps.getD 3 undef = .pointer (some ⟨r3, 0, none⟩) := by rfl) :
    (results Tryz.f15 tmps).run Tryz.prog w = .ok (.tuple #[.agg #[a, b], .int .i64 E]) w := by
  simp only [Array.getD_eq_getD_getElem?] at ht2 ht3
  simp only [results, Tryz.results15]
  simp [ht2, ht3, loadB h2, bload32 h3, asAddr]

set_option maxRecDepth 100000 in
set_option maxHeartbeats 4000000 in
theorem bdecode_long (v : Value) (bs : List Int) (w : World) (h : Sl w v bs) (hlen : 65536 < bs.length) : Calls Tryz.prog 15 #[v] w (DB w (.error 4)) := by
  have H1 := hid (bdoor (Below.refl _ ((w.alloc (bo 0 (.slice none 0 0))).alloc (.cells #[.int .i64 0] 33))))
  obtain ⟨ao, cap, rfl, -, -⟩ := h
  have hmf : ∀ (fn : Fn) (first cap : Array Value) (w : World), (Instr.makeFunc fn first cap).run Tryz.prog w = .ok (.func fn first cap) w := fun _ _ _ _ => rfl
  have hl' : (65536 : Int) < (bs.length : Int) := by omega
  unfold DB
  dsimp only
  clear hlen
  go_enter_defers Tryz.func15, Tryz.ntmps15
  go_wp2
  refine leaves_cons (f := 26) (args := #[.pointer (some ⟨w.heap.size, 0, none⟩), .pointer (some ⟨w.heap.size + 1, 0, none⟩)]) (by simp) (by simp [go_sem]) ?_
  refine (bcatch_ref (w.heap.size + 1) w.heap.size 0 (.slice none 0 0) 0 4 _ H1.out.1 H1.out.2.1).mono ?_
  rintro e u' w2 ⟨rfl, rfl, h2, h3, hk⟩
  exact ⟨_, ret10 h2 h3, H1.out.2.2.trans (hk.below H1.out.2.2.size (fun k h1 h2 => by omega)), rfl⟩

set_option maxRecDepth 100000 in
set_option maxHeartbeats 4000000 in
theorem bdecode_take_no (v : Value) (bs : List Int) (w : World) (h : Sl w v bs) (ho : Oct bs) (hl : bs.length ≤ 65536) (E : Int) (hE : tkBat bs = .error E) : Calls Tryz.prog 15 #[v] w (DB w (.error E)) := by
  have HT := hid (fun W (hW : Sl W v bs) => btake_any v bs W hW ho (by omega))
  rw [hE] at HT
  unfold TKB at HT
  dsimp only at HT
  have HH := hid h
  obtain ⟨ao, cap, rfl, -, -⟩ := h
  have hmf : ∀ (fn : Fn) (first cap : Array Value) (w : World), (Instr.makeFunc fn first cap).run Tryz.prog w = .ok (.func fn first cap) w := fun _ _ _ _ => rfl
  have hl' : decide ((65536 : Int) < (bs.length : Int)) = false := by simp; omega
  unfold DB
  dsimp only
  clear hl hE
  go_enter_defers Tryz.func15, Tryz.ntmps15
  go_wp2_with (first
    | (go_at_call 27
       refine (HT.out _ (HH.out.below (below2 w _ _))).mono ?_
       rintro e w1 ⟨hb1, rfl⟩
       have H1 := hid (bdoor hb1)
       clear hb1))
  refine leaves_cons (f := 26) (args := #[.pointer (some ⟨w.heap.size, 0, none⟩), .pointer (some ⟨w.heap.size + 1, 0, none⟩)]) (by simp) (by simp [go_sem]) ?_
  refine (bcatch_ref (w.heap.size + 1) w.heap.size 0 (.slice none 0 0) 0 E w1 H1.out.1 H1.out.2.1).mono ?_
  rintro e u' w2 ⟨rfl, rfl, h2, h3, hk⟩
  exact ⟨_, ret10 h2 h3, H1.out.2.2.trans (hk.below H1.out.2.2.size (fun k h1 h2 => by omega)), rfl⟩

/-- Behind take: the result's block, the list. -/
structure Db (w W : World) (f : Int) (S : Value) (ts : List Txd) : Prop where
  r2 : W.heap[w.heap.size]? = some (bo f S)
  r3 : W.heap[w.heap.size + 1]? = some (.cells #[.int .i64 0] 33 (0, 0))
  ts : TsAt (w.heap.size + 2) W S ts
  hb : Below w.heap.size w W

theorem Db.below {w W W' : World} {f : Int} {S : Value} {ts : List Txd} (h : Db w W f S ts) (hb : Below W.heap.size W W') : Db w W' f S ts :=
  ⟨blk_of hb h.r2 (lt_of h.r2), blk_of hb h.r3 (lt_of h.r3), h.ts.below hb, below_on h.hb hb⟩

abbrev putB (w : World) (r : Nat) (a b : Value) : World := (w.setCell ⟨r, 0, none⟩ a).setCell ⟨r, 1, none⟩ b

theorem db_put {w w1 : World} {f0 f : Int} {S0 S : Value} {ts : List Txd} (h1 : w1.heap[w.heap.size]? = some (bo f0 S0) ∧ w1.heap[w.heap.size + 1]? = some (.cells #[.int .i64 0] 33 (0, 0)) ∧ Below w.heap.size w w1) (ht : TsAt (w.heap.size + 2) w1 S ts) :
    Db w (putB w1 w.heap.size (.int .i64 f) S) f S ts := by
  have k : Kept (fun k => k = w.heap.size) w1 (putB w1 w.heap.size (.int .i64 f) S) := ((Kept.refl (fun k => k = w.heap.size) w1).setCell (p := ⟨w.heap.size, 0, none⟩) (fun _ => rfl) _).setCell (p := ⟨w.heap.size, 1, none⟩) (fun _ => rfl) _
  obtain ⟨e1, e2, e3⟩ := h1
  exact ⟨by simp [putB, World.setCell, Array.getElem?_modify, e1], (k.block _ (lt_of e2) (by omega)).trans e2, ht.same (Same.kept k (fun k h1 _ => by omega)), e3.trans (k.below e3.size (fun k h1 h2 => by omega))⟩

theorem Db.fin {w W : World} {f : Int} {S : Value} {ts : List Txd} (h : Db w W f S ts) :
    ((putB W w.heap.size (.int .i64 f) S).setCell ⟨w.heap.size + 1, 0, none⟩ (.int .i64 0)).heap[w.heap.size]? = some (bo f S) ∧
    ((putB W w.heap.size (.int .i64 f) S).setCell ⟨w.heap.size + 1, 0, none⟩ (.int .i64 0)).heap[w.heap.size + 1]? = some (.cells #[.int .i64 0] 33 (0, 0)) ∧
    Below w.heap.size w ((putB W w.heap.size (.int .i64 f) S).setCell ⟨w.heap.size + 1, 0, none⟩ (.int .i64 0)) ∧
    TsAt w.heap.size ((putB W w.heap.size (.int .i64 f) S).setCell ⟨w.heap.size + 1, 0, none⟩ (.int .i64 0)) S ts := by
  have h2 := db_put (f := f) ⟨h.r2, h.r3, h.hb⟩ h.ts
  generalize putB W w.heap.size (.int .i64 f) S = V at h2
  have k : Kept (fun k => k = w.heap.size + 1) V (V.setCell ⟨w.heap.size + 1, 0, none⟩ (.int .i64 0)) := (Kept.refl (fun k => k = w.heap.size + 1) V).setCell (p := ⟨w.heap.size + 1, 0, none⟩) (fun _ => rfl) _
  have e3 := h2.r3
  exact ⟨(k.block _ (lt_of h2.r2) (by omega)).trans h2.r2, by simp [World.setCell, Array.getElem?_modify, e3], h2.hb.trans (k.below h2.hb.size (fun k h1 h2 => by omega)), (h2.ts.same (Same.kept k (fun k h1 _ => by omega))).mono (by omega)⟩

theorem tkTx_L (bs : List Int) (a : Nat) (t : Txd) (a2 : Nat) (h : tkTx bs a = .ok (t, a2)) (ho : Oct bs) : TxL t := by
  unfold tkTx at h
  split at h
  · split at h
    · unfold tkDef at h
      split at h
      · split at h
        · cases h
        · rename_i nm ar xs hd
          injection h with h
          injection h with h1 _
          subst h1
          have := tkProc_len _ _ _ _ (decP_ok _ _ _ _ hd).1
          exact ⟨by dsimp only; omega, by simp⟩
      · cases h
    · split at h
      · unfold tkCal at h
        split at h
        · unfold tkCalN at h
          split at h
          · split at h
            · split at h
              · cases h
              · rename_i hle vs a3 hv
                injection h with h
                injection h with h1 _
                subst h1
                have h2 := (tkVs_part bs ho _ _ _ _ _ hv).2.2.2
                exact ⟨by simp, by dsimp only; omega⟩
            · cases h
          · cases h
        · cases h
      · cases h
  · cases h

theorem tkTs_L (bs : List Int) (ho : Oct bs) : ∀ (n a : Nat) (ts : List Txd) (a2 : Nat), tkTs bs n a = .ok (ts, a2) → ∀ t ∈ ts, TxL t := by
  intro n
  induction n with
  | zero => intro a ts a2 h t ht; rw [tkTs] at h; injection h with h; injection h with h1 _; rw [← h1] at ht; simp at ht
  | succ n ih =>
    intro a ts a2 h t ht
    rw [tkTs] at h
    cases hI : tkTx bs a with
    | error E => rw [hI] at h; cases h
    | ok r =>
      obtain ⟨d, a3⟩ := r
      rw [hI] at h
      dsimp only at h
      cases hC : tkTs bs n a3 with
      | error E => rw [hC] at h; cases h
      | ok r =>
        obtain ⟨ys, a4⟩ := r
        rw [hC] at h
        injection h with h
        injection h with h1 _
        rw [← h1] at ht
        rcases List.mem_cons.1 ht with rfl | ht
        · exact tkTx_L bs a t a3 hI ho
        · exact ih a3 ys a4 hC t ht

theorem tkBat_L (bs : List Int) (ho : Oct bs) (f : Int) (ts : List Txd) (h : tkBat bs = .ok (f, ts)) : ∀ t ∈ ts, TxL t := by
  obtain ⟨t1, a1, n, t2, a2, a3, h1, h2, h64, hC, hE⟩ := tkBat_ok bs f ts h
  exact tkTs_L bs ho _ _ _ _ hC

theorem TsAt.form {B : Nat} {w : World} {S : Value} {ts : List Txd} (h : TsAt B w S ts) : ∃ ao cap, S = .slice ao ts.length cap := by
  obtain ⟨ao, cap, h, _⟩ := h
  exact ⟨ao, cap, h⟩

set_option maxRecDepth 100000 in
set_option maxHeartbeats 4000000 in
theorem bdecode_no (v : Value) (bs : List Int) (w : World) (h : Sl w v bs) (ho : Oct bs) (hl : bs.length ≤ 65536) (f : Int) (ts : List Txd) (hT : tkBat bs = .ok (f, ts)) (hE : batChk f ts ≠ 0) : Calls Tryz.prog 15 #[v] w (DB w (.error (batChk f ts))) := by
  have HT := hid (fun W (hW : Sl W v bs) => btake_any v bs W hW ho (by omega))
  have hlen := (tkBat_bytes bs ho f ts hT).2.2
  have HC := hid (fun B S W hW => bcheck_any B f S ts W hW (tkBat_L bs ho f ts hT) (by omega))
  rw [hT] at HT
  unfold TKB at HT
  dsimp only at HT
  generalize batChk f ts = E at *
  have HH := hid h
  obtain ⟨ao, cap, rfl, -, -⟩ := h
  have hmf : ∀ (fn : Fn) (first cap : Array Value) (w : World), (Instr.makeFunc fn first cap).run Tryz.prog w = .ok (.func fn first cap) w := fun _ _ _ _ => rfl
  have hl' : decide ((65536 : Int) < (bs.length : Int)) = false := by simp; omega
  unfold DB
  dsimp only
  clear hl hT
  go_enter_defers Tryz.func15, Tryz.ntmps15
  go_wp2_with (first
    | (go_at_call 27
       refine (HT.out _ (HH.out.below (below2 w _ _))).mono ?_
       rintro e w1 ⟨hb1, S, rfl, hts⟩
       have H1 := hid (db_put (f := f) (bdoor hb1) (hts.mono (by simp)))
       obtain ⟨c0, c1, cz⟩ := vfacts2 (bdoor hb1).1
       obtain ⟨ao2, cap2, rfl⟩ := hts.form
       clear hb1 hts)
    | (go_at_call 8
       refine (HC.out _ _ _ H1.out.ts).mono ?_
       rintro e w2 ⟨rfl, hb2⟩
       have H2 := hid (H1.out.below hb2)
       clear hb2)
    | (go_at_call 28; refine (binsist_no E hE _).mono ?_; rintro e w3 ⟨rfl, e3⟩; rw [e3]; clear e3 w3))
  refine leaves_cons (f := 26) (args := #[.pointer (some ⟨w.heap.size, 0, none⟩), .pointer (some ⟨w.heap.size + 1, 0, none⟩)]) (by simp) (by simp [go_sem]) ?_
  refine (bcatch_ref (w.heap.size + 1) w.heap.size _ _ 0 E w2 H2.out.r2 H2.out.r3).mono ?_
  rintro e u' w4 ⟨rfl, rfl, h2, h3, hk⟩
  exact ⟨_, ret10 h2 h3, H2.out.hb.trans (hk.below H2.out.hb.size (fun k h1 h2 => by omega)), rfl⟩

set_option maxRecDepth 100000 in
set_option maxHeartbeats 4000000 in
theorem bdecode_ok (v : Value) (bs : List Int) (w : World) (h : Sl w v bs) (ho : Oct bs) (hl : bs.length ≤ 65536) (f : Int) (ts : List Txd) (hT : tkBat bs = .ok (f, ts)) (hE : batChk f ts = 0) : Calls Tryz.prog 15 #[v] w (DB w (.ok (f, ts))) := by
  have HT := hid (fun W (hW : Sl W v bs) => btake_any v bs W hW ho (by omega))
  have hlen := (tkBat_bytes bs ho f ts hT).2.2
  have HC := hid (fun B S W hW => bcheck_any B f S ts W hW (tkBat_L bs ho f ts hT) (by omega))
  rw [hT] at HT
  rw [hE] at HC
  unfold TKB at HT
  dsimp only at HT
  have HH := hid h
  obtain ⟨ao, cap, rfl, -, -⟩ := h
  have hmf : ∀ (fn : Fn) (first cap : Array Value) (w : World), (Instr.makeFunc fn first cap).run Tryz.prog w = .ok (.func fn first cap) w := fun _ _ _ _ => rfl
  have hl' : decide ((65536 : Int) < (bs.length : Int)) = false := by simp; omega
  unfold DB
  dsimp only
  clear hl hT hE
  go_enter_defers Tryz.func15, Tryz.ntmps15
  go_wp2_with (first
    | (go_at_call 27
       refine (HT.out _ (HH.out.below (below2 w _ _))).mono ?_
       rintro e w1 ⟨hb1, S, rfl, hts⟩
       have H1 := hid (db_put (f := f) (bdoor hb1) (hts.mono (by simp)))
       obtain ⟨c0, c1, cz⟩ := vfacts2 (bdoor hb1).1
       obtain ⟨ao2, cap2, rfl⟩ := hts.form
       clear hb1 hts)
    | (go_at_call 8
       refine (HC.out _ _ _ H1.out.ts).mono ?_
       rintro e w2 ⟨rfl, hb2⟩
       have H2 := hid (H1.out.below hb2)
       obtain ⟨c0, c1, cz⟩ := vfacts2 H2.out.r2
       have d0 : w2.cell? ⟨w.heap.size + 1, 0, none⟩ = some (.int .i64 0) := by rw [cell_of_row w2 _ _ _ _ _ H2.out.r3]; rfl
       have dz : ∀ o, w2.frozen? ⟨w.heap.size + 1, o, none⟩ = false := fun o => by simp [World.frozen?, H2.out.r3]
       clear hb2)
    | (go_at_call 28; refine (binsist_ok _).mono ?_; rintro e w3 ⟨rfl, e3⟩; rw [e3]; clear e3 w3))
  refine leaves_cons (f := 26) (args := #[.pointer (some ⟨w.heap.size, 0, none⟩), .pointer (some ⟨w.heap.size + 1, 0, none⟩)]) (by simp) (by simp [go_sem]) ?_
  refine (bcatch_idle _ _ _).mono ?_
  rintro e u' w4 ⟨rfl, rfl, rfl⟩
  obtain ⟨f1, f2, f3, f4⟩ := H2.out.fin
  exact ⟨_, ret10 f1 f2, f3, _, rfl, f4⟩

theorem bdecode_any (v : Value) (bs : List Int) (w : World) (h : Sl w v bs) (ho : Oct bs) : Calls Tryz.prog 15 #[v] w (DB w (decBat bs)) := by
  unfold decBat
  by_cases hl : bs.length ≤ 65536
  · rw [if_pos hl]
    cases hT : tkBat bs with
    | error E => exact bdecode_take_no v bs w h ho hl E hT
    | ok r =>
      obtain ⟨f, ts⟩ := r
      dsimp only
      by_cases h0 : batChk f ts = 0
      · rw [if_pos h0]
        exact bdecode_ok v bs w h ho hl f ts hT h0
      · rw [if_neg h0]
        exact bdecode_no v bs w h ho hl f ts hT h0
  · rw [if_neg hl]
    exact bdecode_long v bs w h (by omega)

end Go.Proofs.YtdnlfacfleemeaaGreat

namespace Go.Proofs.YtdnlfacfleemeaaGreat
open Go.RowKit Go.Lib

theorem fldV_oct (f : Fk) (v : Int) (h0 : 0 ≤ v) (h1 : v < 256) : Oct (fldV f v) := by
  have hr : Oct (rowF 10 v) := oct_row 10 v h0 (by omega)
  have hb : Oct [v] := fun y hy => by simp at hy; omega
  cases f
  · exact hb
  · exact hb
  · exact hb
  · exact hr
  · exact hr
  · exact hr
  · exact hr

theorem oct_app {a b : List Int} (h1 : Oct a) (h2 : Oct b) : Oct (a ++ b) := fun y hy => (List.mem_append.1 hy).elim (h1 y) (h2 y)

theorem insBx_oct (x : Ins) (hop : 1 ≤ x.op ∧ x.op ≤ 16) (hf : ∀ f ∈ opF (opN x.op), 0 ≤ f.get x ∧ f.get x < 256) (hc : chk x.k x.i x.t = 0) (hi : InsOk x) : Oct (insBx x) := by
  rw [insBx_eq]
  refine oct_app (fun y hy => by simp at hy; omega) (oct_app ?_ ?_)
  · intro y hy
    obtain ⟨f, hf1, hf2⟩ := List.mem_flatMap.1 hy
    exact fldV_oct f _ (hf f hf1).1 (hf f hf1).2 y hf2
  · split
    · have hl := encB_len x.k x.i x.t hc hi.1 hi.2
      exact oct_app (oct_row 10 _ (by omega) (by have := hl.1; omega)) hl.2
    · exact fun y hy => by simp at hy

theorem procB_oct (nm : ByteArray) (ar : Int) (xs : List Ins) (hE : (procChk nm ar xs).2 = 0) (hi : ∀ x ∈ xs, InsOk x) : Oct (procB nm ar xs) := by
  have g := good_of hE
  have h1 := g.a0
  have h2 := g.a1
  have h3 := g.len
  have h4 := g.size
  have h5 := strBs_len nm
  unfold procB
  refine oct_app (oct_app (oct_app (oct_app (oct_row 10 _ (by omega) (by omega)) (oct_str nm)) (oct_row 10 _ h1 (by omega))) (oct_row 10 _ (by omega) (by omega))) ?_
  intro y hy
  obtain ⟨x, hx1, hx2⟩ := List.mem_flatMap.1 hy
  obtain ⟨j, hj⟩ := List.getElem?_of_mem hx1
  obtain ⟨q1, q2, q3⟩ := g.at hj
  exact insBx_oct x q1 q2 q3 (hi x hx1) y hx2

theorem Wr.uniq {B : Nat} {w : World} {p : Nat} {g g' : Option Nat} {bs bs' : List Int} {e e' : Int} (h : Wr B w p g bs e) (h' : Wr B w p g' bs' e') : g = g' := by
  obtain ⟨v, h1, rfl, _⟩ := h
  obtain ⟨v', h1', rfl, _⟩ := h'
  rw [h1] at h1'
  simp at h1'
  rw [h1'.1]

theorem wr_below {B p : Nat} {g : Option Nat} {w w' : World} {bs bs2 : List Int} {e e2 : Int} (h : Wr B w p g bs e) (hp : B ≤ p) (hs : WrStep B p g w w' bs2 e2) : Below B w w' := by
  obtain ⟨g', h1, h2, hk⟩ := hs
  have := h.lt
  refine hk.below (by omega) ?_
  rintro k hk2 (rfl | e)
  · omega
  · have := (h.glt k e).1; omega

/-- While a transaction is laid. -/
structure Ly (w0 w W : World) (p : Nat) (g : Option Nat) (o : Obj) (bs : List Int) : Prop where
  r0 : W.heap[w.heap.size]? = some o
  st : WrStep w0.heap.size p g w W bs 0
  hb : Below w0.heap.size w0 W

theorem WrStep.below {B p : Nat} {g : Option Nat} {w W W' : World} {bs : List Int} (h : WrStep B p g w W bs 0) (hb : Below W.heap.size W W') : WrStep B p g w W' bs 0 := by
  obtain ⟨g', h1, h2, h3⟩ := h
  exact ⟨g', h1.kept (Kept.ofBelow hb) (fun h => h) (fun _ _ h => h), h2, h3.more hb⟩

theorem below_up {B : Nat} {w W W' : World} (h : Below B w W) (hB : B ≤ w.heap.size) (hb : Below B W W') : Below B w W' := by
  have _ := hB
  exact h.trans hb

theorem Ly.below {w0 w W W' : World} {p : Nat} {g : Option Nat} {o : Obj} {bs : List Int} (h : Ly w0 w W p g o bs) (hb : Below W.heap.size W W') : Ly w0 w W' p g o bs :=
  ⟨blk_of hb h.r0 (lt_of h.r0), h.st.below hb, below_on h.hb hb⟩

theorem Ly.step {w0 w W W' : World} {p : Nat} {g g1 : Option Nat} {cs : Array Value} {ty : TypeId} {bs bs2 : List Int} (h : Ly w0 w W p g (.cells cs ty) bs) (hp : w0.heap.size ≤ p) (h5 : ty ≠ 5) (h57 : ty ≠ 58)
    (hg1 : Wr w0.heap.size W p g1 bs 0) (hs : WrStep w0.heap.size p g1 W W' bs2 0) : Ly w0 w W' p g (.cells cs ty) bs2 := by
  refine ⟨?_, ?_, h.hb.trans (wr_below hg1 hp hs)⟩
  · obtain ⟨g', h1, h2, hk⟩ := hs
    exact (hk.block _ (lt_of h.r0) (hg1.other h.r0 h5 h57)).trans h.r0
  · refine h.st.trans (fun g' hg' => ?_)
    rw [hg'.uniq hg1]
    exact hs

theorem ly_start {w0 w : World} {p : Nat} {g : Option Nat} {o : Obj} {bs : List Int} (hW : Wr w0.heap.size w p g bs 0) (hb : Below w0.heap.size w0 w) : Ly w0 w (w.alloc o) p g o bs :=
  ⟨heap_alloc_new w o, (WrStep.refl hW).below (below1 w o), below_on hb (below1 w o)⟩

theorem ta73 (v : Value) (w : World) : (Instr.typeAssert (.iface 90 v) 62 90 true).run Tryz.prog w = .ok (.tuple #[v, .bool true]) w := by kernel_rfl
theorem ta7773 (v : Value) (w : World) : (Instr.typeAssert (.iface 94 v) 62 90 true).run Tryz.prog w = .ok (.tuple #[.agg #[.int .i64 0, .string ⟨#[]⟩, .int .i64 0, .slice none 0 0, .string ⟨#[]⟩, .slice none 0 0], .bool false]) w := by kernel_rfl
theorem ta77 (v : Value) (w : World) : (Instr.typeAssert (.iface 94 v) 62 94 true).run Tryz.prog w = .ok (.tuple #[v, .bool true]) w := by kernel_rfl

theorem wnum_eq (bs : List Int) (v : Int) (hv : 0 ≤ v) : wnumZ (bs, 0) v = (bs ++ rowF 10 v, 0) := by unfold wnumZ; rw [if_pos rfl, if_neg (by omega)]
theorem wtext_eq (bs s : List Int) : wtextZ (bs, 0) s = (bs ++ (rowF 10 s.length ++ s), 0) := by simp [wtextZ]

theorem vtake (vs : List Vd) (n : Nat) (v : Vd) (h : vs[n]? = some v) : (vs.take (n + 1)).flatMap vB = (vs.take n).flatMap vB ++ vB v := by
  rw [List.take_add_one, h]
  simp [List.flatMap_append]

set_option maxRecDepth 100000 in
set_option maxHeartbeats 4000000 in
theorem blay_def (w0 w : World) (B0 p : Nat) (g : Option Nat) (bs : List Int) (t : Txd) (S1 S2 : Value) (hW : Wr w0.heap.size w p g bs 0) (hp : w0.heap.size ≤ p) (hb : Below w0.heap.size w0 w) (h1 : CdAt B0 w0 S1 t.xs) (h2 : VsAt B0 w0 S2 t.vs)
    (hc : (procChk t.pn t.pa t.xs).2 = 0) (ho : ∀ x ∈ t.xs, InsOk x) (hl : bs.length ≤ 500000000) :
    Calls Tryz.prog 21 #[.pointer (some ⟨p, 0, none⟩), .iface 90 (txv t S1 S2)] w fun e w' => e = .returned (.tuple #[]) ∧ WrStep w0.heap.size p g w w' (bs ++ ([1] ++ rowF 10 ((procB t.pn t.pa t.xs).length : Nat) ++ procB t.pn t.pa t.xs)) 0 := by
  have q1 := ta73
  have HY := hid (ly_start (o := txo t S1 S2 90) hW hb)
  have hlt := hW.lt
  have HC := hid (fun W (hb : Below w0.heap.size w0 W) => pencode_any t.pn t.pa S1 t.xs W (h1.code.below hb) (by have := (good_of hc).len; omega) ho)
  obtain ⟨E1, E2, hR⟩ : ∃ R1 R2, procChk t.pn t.pa t.xs = (R1, R2) := ⟨_, _, rfl⟩
  have hsm := procB_small t.pn t.pa t.xs hc
  unfold PEnc at HC
  rw [hR] at HC hc
  dsimp only at HC hc
  subst hc
  have hoc : Oct (procB t.pn t.pa t.xs) := procB_oct t.pn t.pa t.xs (by rw [hR]) ho
  have HO := hid hoc
  obtain ⟨a1, c1, rfl⟩ := h1.form
  obtain ⟨a2, c2, rfl⟩ := h2.form
  generalize hPB : procB t.pn t.pa t.xs = PB at *
  clear hR h1 h2 ho hoc hPB hW
  go_enter Tryz.func21, Tryz.ntmps21
  go_wp2_with (first
    | (go_at_call 41
       obtain ⟨g1, hg1, -⟩ := HY.out.st
       refine (wbyte_any w0.heap.size p g1 bs 0 _ 1 hg1 (by simp; omega) (by decide) (by decide) (by omega)).mono ?_
       rintro e w1 ⟨rfl, hs1⟩
       rw [fix1 1 (by decide) (by decide)] at hs1
       have H1 := hid (HY.out.step hp (by decide) (by decide) hg1 hs1)
       obtain ⟨p0, p1, p2, p3, p4, p5, -⟩ := vfacts6 H1.out.r0
       clear hs1 hg1 g1)
    | (go_at_call 42
       refine (HC.out _ H1.out.hb).mono ?_
       rintro e w2 (⟨h5, -⟩ | ⟨-, g5, rfl, ho5, hg5, hb5⟩)
       · exact absurd rfl h5
       have hs5 := sl_string (sl_of_owns (ho5.owns (B := 0) (Nat.zero_le _) (by unfold maxLen; omega)))
       have H2 := hid (H1.out.below hb5)
       clear hb5 ho5 hg5)
    | (go_at_call 43
       obtain ⟨g1, hg1, -⟩ := H2.out.st
       refine (wtext_any w0.heap.size p g1 _ 0 _ (mkStr PB) hg1 H2.out.hb.size (by rw [mkStr_size]; omega) (by rw [List.length_append]; simp; omega)).mono ?_
       rintro e w3 ⟨rfl, hs3⟩
       rw [strBs_mkStr _ HO.out, wtext_eq] at hs3
       have H3 := hid (H2.out.step hp (by decide) (by decide) hg1 hs3)
       clear hs3 hg1 g1))
  go_end0
  exact ⟨rfl, by have := H3.out.st; simpa [List.append_assoc] using this⟩

theorem call_bytes (bs nm : List Int) (l : Int) (vb : List Int) : bs ++ [2] ++ (rowF 10 (nm.length : Nat) ++ nm) ++ rowF 10 l ++ vb = bs ++ ([2] ++ rowF 10 (nm.length : Nat) ++ nm ++ rowF 10 l ++ vb) := by simp [List.append_assoc]

set_option maxRecDepth 100000 in
set_option maxHeartbeats 4000000 in
theorem blay_call (w0 w : World) (B0 p : Nat) (g : Option Nat) (bs : List Int) (t : Txd) (S1 S2 : Value) (hW : Wr w0.heap.size w p g bs 0) (hp : w0.heap.size ≤ p) (hb : Below w0.heap.size w0 w) (h1 : CdAt B0 w0 S1 t.xs) (h2 : VsAt B0 w0 S2 t.vs)
    (hn : t.nm.size ≤ 32) (hv : t.vs.length ≤ 16) (hc : ∀ v ∈ t.vs, chk v.k v.i v.t = 0) (ho : ∀ v ∈ t.vs, VdOk v) (hl : bs.length ≤ 500000000) :
    Calls Tryz.prog 21 #[.pointer (some ⟨p, 0, none⟩), .iface 94 (txv t S1 S2)] w fun e w' => e = .returned (.tuple #[]) ∧ WrStep w0.heap.size p g w w' (bs ++ ([2] ++ rowF 10 ((strBs t.nm).length : Nat) ++ strBs t.nm ++ rowF 10 (t.vs.length : Int) ++ t.vs.flatMap vB)) 0 := by
  have q1 := ta7773
  have q2 := ta77
  have HY := hid (ly_start (o := txo t S1 S2 94) hW hb)
  have hlt := hW.lt
  have hsl := strBs_len t.nm
  obtain ⟨a1, c1, rfl⟩ := h1.form
  obtain ⟨a2, c2, rfl, hc2, hx2⟩ := h2
  have HX := hid hx2
  have HC := hid hc
  have HO := hid ho
  have hr1 := rowF_le 10 ((strBs t.nm).length : Nat)
  have hr2 := rowF_le 10 (t.vs.length : Int)
  have HE := hid (fun v (hv : v ∈ t.vs) => encode_any v.k v.i v.t (ho v hv).1 (ho v hv).2)
  clear h1 hx2 hc ho hW
  obtain ⟨hd, hhd⟩ : ∃ hd, hd = bs ++ [2] ++ (rowF 10 ((strBs t.nm).length : Nat) ++ strBs t.nm) ++ rowF 10 (t.vs.length : Int) := ⟨_, rfl⟩
  have hdl : hd.length ≤ 500001000 := by rw [hhd]; simp only [List.length_append, List.length_singleton]; omega
  have HHD := hid hhd
  have L1 : Hid ((bs ++ [2]).length ≤ 1000000000) := hid (by simp only [List.length_append, List.length_singleton]; omega)
  have L2 : Hid ((bs ++ [2] ++ (rowF 10 ((strBs t.nm).length : Nat) ++ strBs t.nm)).length ≤ 1000000000) := hid (by simp only [List.length_append, List.length_singleton]; omega)
  clear hhd hr1 hr2
  go_enter Tryz.func21, Tryz.ntmps21
  go_wp2_with (first
    | (go_at_call 41
       obtain ⟨g1, hg1, -⟩ := HY.out.st
       refine (wbyte_any w0.heap.size p g1 bs 0 _ 2 hg1 (by simp; omega) (by decide) (by decide) (by omega)).mono ?_
       rintro e w1 ⟨rfl, hs1⟩
       rw [fix1 2 (by decide) (by decide)] at hs1
       have H1 := hid (HY.out.step hp (by decide) (by decide) hg1 hs1)
       obtain ⟨p0, p1, p2, p3, p4, p5, -⟩ := vfacts6 H1.out.r0
       clear hs1 hg1 g1)
    | (go_at_call 43
       obtain ⟨g1, hg1, -⟩ := H1.out.st
       refine (wtext_any w0.heap.size p g1 _ 0 _ t.nm hg1 H1.out.hb.size (by omega) L1.out).mono ?_
       rintro e w2 ⟨rfl, hs2⟩
       rw [wtext_eq] at hs2
       have H2 := hid (H1.out.step hp (by decide) (by decide) hg1 hs2)
       obtain ⟨p0, p1, p2, p3, p4, p5, -⟩ := vfacts6 H2.out.r0
       clear hs2 hg1 g1 H1)
    | (go_at_call 20
       obtain ⟨g1, hg1, -⟩ := H2.out.st
       refine (wnum_any w0.heap.size p g1 _ 0 _ (t.vs.length : Int) hg1 H2.out.hb.size (by omega) L2.out).mono ?_
       rintro e w3 ⟨rfl, hs3⟩
       rw [wnum_eq _ _ (by omega)] at hs3
       have H3 := hid (H2.out.step hp (by decide) (by decide) hg1 hs3)
       rw [← HHD.out] at H3
       obtain ⟨p0, p1, p2, p3, p4, p5, -⟩ := vfacts6 H3.out.r0
       clear hs3 hg1 g1 H2))
  go_loopw [45] (fun ix wr => ∃ (n : Nat), n ≤ t.vs.length ∧ ix = .int .i64 n ∧ Hid (Ly w0 w wr p g (txo t (.slice a1 t.xs.length c1) (.slice a2 t.vs.length c2) 94) (hd ++ (t.vs.take n).flatMap vB))) (fun ix _ => t.vs.length - (intOf ix).toNat)
  case atStart => exact ⟨0, Nat.zero_le _, rfl, hid (by simpa using H3.out)⟩
  case round =>
    clear H3 p0 p1 p2 p3 p4 p5
    obtain ⟨n, hn2, rfl, hP⟩ := hrel
    obtain ⟨p0, p1, p2, p3, p4, p5, -⟩ := vfacts6 hP.out.r0
    by_cases hlt2 : n < t.vs.length
    · obtain ⟨v, hvn⟩ : ∃ v, t.vs[n]? = some v := ⟨_, List.getElem?_eq_getElem hlt2⟩
      obtain ⟨b, off, rfl, hBb, hat⟩ := HX.out (by intro e; rw [e] at hlt2; simp at hlt2)
      have hat := hat n v hvn
      obtain ⟨d0, d1, d2⟩ := hat.same (hP.out.hb.block b hat.lt)
      have hmem := List.mem_of_getElem? hvn
      have hlt2' : (n : Int) < (t.vs.length : Int) := by omega
      have m2 := World.new_ne wr ⟨b, off + n * 3, none⟩ d0
      have HT := hid (vtake t.vs n v hvn)
      have HEv := hid (HE.out v hmem)
      have HZ := hid (HC.out v hmem)
      have HQ := hid (And.intro (encB_small v.k v.i v.t (HC.out v hmem)) (encB_len v.k v.i v.t (HC.out v hmem) (HO.out v hmem).1 (HO.out v hmem).2).2)
      have HLN : Hid ((hd ++ (t.vs.take n).flatMap vB).length ≤ 1000000000) := hid (by
        have h9 := flat_lenI vB 320 (t.vs.take n) (fun v hv2 => vB_small v (HC.out v (List.mem_of_mem_take hv2)))
        have h8 : (t.vs.take n).length ≤ 16 := by rw [List.length_take]; omega
        have h7 : 320 * (t.vs.take n).length ≤ 320 * 16 := Nat.mul_le_mul_left _ h8
        rw [List.length_append]
        omega)
      clear hat hvn hmem p0 p1 p2 p3 p4 p5
      go_wp2_with (first
        | (go_at_call 44
           refine (HEv.out _).mono ?_
           rintro e w5 (⟨h5, -⟩ | ⟨-, g5, rfl, ho5, hg5, hb5⟩)
           · exact absurd HZ.out h5
           have hs5 := sl_string (sl_of_owns (ho5.owns (B := 0) (Nat.zero_le _) (by have := HQ.out.1; unfold maxLen; omega)))
           have H5 := hid (hP.out.below (below_on (below1 wr _) hb5))
           clear hb5 ho5 hg5)
        | (go_at_call 43
           obtain ⟨g1, hg1, -⟩ := H5.out.st
           refine (wtext_any w0.heap.size p g1 _ 0 _ (mkStr (encB v.k v.i v.t)) hg1 H5.out.hb.size (by rw [mkStr_size]; have := HQ.out.1; omega) HLN.out).mono ?_
           rintro e w6 ⟨rfl, hs6⟩
           rw [strBs_mkStr _ HQ.out.2, wtext_eq] at hs6
           have H6 := hid (H5.out.step hp (by decide) (by decide) hg1 hs6)
           clear hs6 hg1 g1))
      go_roundw
      case rel =>
        refine ⟨n + 1, by omega, by go_num, hid ?_⟩
        rw [HT.out, ← List.append_assoc]
        exact H6.out
      case measure => simp [intOf]; omega
    · have htk : t.vs.take n = t.vs := List.take_of_length_le (by omega)
      rw [htk] at hP
      go_wp2
      go_end0
      refine ⟨rfl, ?_⟩
      have := hP.out.st
      rw [HHD.out, call_bytes] at this
      exact this

theorem blay_any (w0 w : World) (B0 p : Nat) (g : Option Nat) (bs : List Int) (t : Txd) (S1 S2 : Value) (hW : Wr w0.heap.size w p g bs 0) (hp : w0.heap.size ≤ p) (hb : Below w0.heap.size w0 w) (h1 : CdAt B0 w0 S1 t.xs) (h2 : VsAt B0 w0 S2 t.vs)
    (hc : txChk t = 0) (ho : TxOk t) (hl : bs.length ≤ 500000000) :
    Calls Tryz.prog 21 #[.pointer (some ⟨p, 0, none⟩), deed t S1 S2] w fun e w' => e = .returned (.tuple #[]) ∧ WrStep w0.heap.size p g w w' (bs ++ txB t) 0 := by
  unfold deed txB
  rcases txChk_good t hc with ⟨hk, _, _, hpr⟩ | ⟨hk, _, _, _, hn, hlv, hv⟩
  · rw [if_pos hk, if_pos hk]
    exact blay_def w0 w B0 p g bs t S1 S2 hW hp hb h1 h2 hpr ho.1 hl
  · have hk1 : ¬ t.k = 1 := by omega
    rw [if_neg hk1, if_neg hk1, if_pos hk]
    exact blay_call w0 w B0 p g bs t S1 S2 hW hp hb h1 h2 (name_size hn) hlv hv ho.2 hl

end Go.Proofs.YtdnlfacfleemeaaGreat
