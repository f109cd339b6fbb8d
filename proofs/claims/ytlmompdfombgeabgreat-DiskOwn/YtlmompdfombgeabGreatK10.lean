import Derived.Test.YtlmompdfombgeabGreatK09
import Derived.Test.YtlmompdfombgeabGreatK04
namespace Go.Proofs.YtlmompdfombgeabGreat
open Go.RowKit Go.MapKept

/-- The fault of number n; 0: none. -/
def fo : List (Int × Int) → Int → Int
  | [], _ => 0
  | x :: l, n => if x.1 = n ∧ 1 ≤ x.2 ∧ x.2 ≤ 3 then x.2 else fo l n

theorem fo_range : ∀ (l : List (Int × Int)) (n : Int), 0 ≤ fo l n ∧ fo l n ≤ 3
  | [], _ => by simp [fo]
  | x :: l, n => by
    unfold fo
    split
    · omega
    · exact fo_range l n

theorem fo_snoc : ∀ (l : List (Int × Int)) (x : Int × Int) (n : Int), fo (l ++ [x]) n = if fo l n = 0 then (if x.1 = n ∧ 1 ≤ x.2 ∧ x.2 ≤ 3 then x.2 else 0) else fo l n
  | [], x, n => by simp [fo]
  | y :: l, x, n => by
    have ih := fo_snoc l x n
    rw [List.cons_append]
    unfold fo
    by_cases h : y.1 = n ∧ 1 ≤ y.2 ∧ y.2 ≤ 3
    · rw [if_pos h, if_pos h, if_neg (by omega)]
    · rw [if_neg h, if_neg h, ih]

/-- A map's entries tell the faults. -/
def KM (es : Array MapEntry) (fs : List (Int × Int)) : Prop := ∀ n, (fo fs n = 0 ∧ Instr.findNow (.int .i64) (.int .i64 n) es.toList 0 = some none) ∨ (fo fs n ≠ 0 ∧ ∃ i, Instr.findNow (.int .i64) (.int .i64 n) es.toList 0 = some (some (i, .int .i64 (fo fs n))))

theorem find_snoc (k : Value) (e : MapEntry) (b : Bool) (hs : Instr.sameNow (.int .i64) k e.key = some b) : ∀ (l : List MapEntry) (i : Nat), Instr.findNow (.int .i64) k (l ++ [e]) i = (Instr.findNow (.int .i64) k l i).bind (fun r => match r with | some x => some (some x) | none => if b then some (some (i + l.length, e.val)) else some none)
  | [], i => by
    cases b <;> simp [Instr.findNow, hs]
  | x :: l, i => by
    have ih := find_snoc k e b hs l (i + 1)
    rw [List.cons_append]
    unfold Instr.findNow
    split
    · rfl
    · rw [ih, List.length_cons, show i + 1 + l.length = i + (l.length + 1) by omega]
    · rfl

theorem KM.nil : KM #[] [] := fun _ => .inl ⟨rfl, rfl⟩

theorem KM.same {es : Array MapEntry} {fs : List (Int × Int)} (h : KM es fs) (x : Int × Int) (hx : fo fs x.1 ≠ 0 ∨ ¬ (1 ≤ x.2 ∧ x.2 ≤ 3)) : KM es (fs ++ [x]) := by
  intro n
  have e : fo (fs ++ [x]) n = fo fs n := by
    rw [fo_snoc]
    by_cases h0 : fo fs n = 0
    · rw [if_pos h0, if_neg, h0]
      rintro ⟨e, h1, h2⟩
      rcases hx with hx | hx
      · rw [e] at hx; exact hx h0
      · exact hx ⟨h1, h2⟩
    · rw [if_neg h0]
  rw [e]
  exact h n

theorem KM.more {es : Array MapEntry} {fs : List (Int × Int)} (h : KM es fs) (x : Int × Int) (_h0 : fo fs x.1 = 0) (h1 : 1 ≤ x.2) (h2 : x.2 ≤ 3) (c : Nat) : KM (es.push { key := .int .i64 x.1, val := .int .i64 x.2, born := c }) (fs ++ [x]) := by
  intro n
  have hs : Instr.sameNow (.int .i64) (.int .i64 n) (.int .i64 x.1) = some (n == x.1) := by simp [Instr.sameNow]
  rw [Array.toList_push, find_snoc (.int .i64 n) { key := .int .i64 x.1, val := .int .i64 x.2, born := c } (n == x.1) hs, fo_snoc]
  rcases h n with ⟨e, f⟩ | ⟨e, i, f⟩
  · rw [f, if_pos e]
    by_cases hn : x.1 = n
    · right
      rw [if_pos ⟨hn, h1, h2⟩]
      refine ⟨by omega, es.toList.length, ?_⟩
      have hb : (n == x.1) = true := by simp [hn]
      simp only [hb, Option.bind_some, if_true, Nat.zero_add]
    · left
      rw [if_neg (fun h => hn h.1)]
      have hb : (n == x.1) = false := by simpa using fun h => hn h.symm
      simp [hb]
  · right
    rw [if_neg e, f]
    exact ⟨e, i, rfl⟩

theorem KM.look {es : Array MapEntry} {fs : List (Int × Int)} (h : KM es fs) {w : World} {b c : Nat} (hb : w.heap[b]? = some (.map es c)) (n : Int) : (Instr.lookup 85 (.map (some b)) (.int .i64 n) false).run Tryz.prog w = .ok (.int .i64 (fo fs n)) w := by
  rcases h n with ⟨e, f⟩ | ⟨e, i, f⟩
  · rw [e]
    exact look_none Tryz.underlying85 Tryz.underlying3 hb (key_int n) (zero3 w) f false
  · exact look_found Tryz.underlying85 Tryz.underlying3 hb (key_int n) f false

theorem KM.look2 {es : Array MapEntry} {fs : List (Int × Int)} (h : KM es fs) {w : World} {b c : Nat} (hb : w.heap[b]? = some (.map es c)) (n : Int) : (Instr.lookup 85 (.map (some b)) (.int .i64 n) true).run Tryz.prog w = .ok (.tuple #[.int .i64 (fo fs n), .bool (!(fo fs n == 0))]) w := by
  rcases h n with ⟨e, f⟩ | ⟨e, i, f⟩
  · rw [e]
    exact look_none Tryz.underlying85 Tryz.underlying3 hb (key_int n) (zero3 w) f true
  · have := look_found (w := w) Tryz.underlying85 Tryz.underlying3 hb (key_int n) f true
    rw [show (fo fs n == 0) = false by simpa using e]
    exact this

set_option maxRecDepth 100000 in
set_option maxHeartbeats 1600000 in
theorem newTally_any (v : Value) (fs : List (Int × Int)) (w : World) (h : Fl w v fs) (hl : fs.length ≤ 1000000) : Calls Tryz.prog 48 #[v] w fun x w' => ∃ m es c, x = .returned (.agg #[.int .i64 0, .map (some m)]) ∧ w'.heap[m]? = some (.map es c) ∧ KM es fs ∧ w.heap.size ≤ m ∧ Below w.heap.size w w' := by
  have hmm := @run_makeMap Tryz.prog
  obtain ⟨ao, cap, rfl, hc, hcm⟩ := h.shape
  have HF := hid h
  clear h hcm
  go_enter Tryz.func48, Tryz.ntmps48
  go_wp2
  go_loopw [11] (fun i wr => ∃ k es c, k ≤ fs.length ∧ i = .int .i64 (k : Nat) ∧ wr.heap[w.heap.size + 1]? = some (.map es c) ∧ KM es (fs.take k) ∧ wr.heap[w.heap.size]? = some (.cells #[.int .i64 0, .map none] 87 (0, 0)) ∧ Below w.heap.size w wr) (fun i _ => fs.length - (intOf i).toNat)
  case atStart =>
    refine ⟨0, #[], 0, Nat.zero_le _, by go_num, ?_, KM.nil, hp_alloc (hp_new _ _) _, ((Below.refl _ _).alloc (Nat.le_refl _) _).alloc (by simp) _⟩
    have := hp_new (w.alloc (.cells #[.int .i64 0, .map none] 87)) (.map #[] 0)
    simpa using this
  case round =>
    obtain ⟨k, es, c, hk, rfl, hM, hKM, hR, hb⟩ := hrel
    have hMl := hp_lt hM
    by_cases hlt : k < fs.length
    · obtain ⟨b, off, cap', e, -, -, hcell⟩ := Rf.elem (f := fcs) (fun _ => rfl) (by omega) HF.out k hlt
      injection e with e1 e2 e3
      subst e1 e3
      clear e2
      obtain ⟨x, hxe⟩ : ∃ x, x = fs[k] := ⟨_, rfl⟩
      rw [← hxe] at hcell
      obtain ⟨at', kd⟩ := x
      have y0 : w.cell? ⟨b, off + k * 2, none⟩ = some (.int .i64 at') := hcell 0 _ rfl
      have y1 := hcell 1 _ rfl
      have x0 := (hb.cell (World.block_lt_of_cell? _ _ y0)).trans y0
      have x1 := (hb.cell (World.block_lt_of_cell? _ _ y1)).trans y1
      dsimp only at x1
      have ht : fs.take (k + 1) = fs.take k ++ [(at', kd)] := by rw [List.take_succ_eq_append_getElem hlt, hxe]
      have hl : ∀ m, (Instr.lookup 85 (.map (some (w.heap.size + 1))) (.int .i64 at') true).run Tryz.prog ((wr.alloc (.cells #[.int .i64 at', .int .i64 kd] 140)).drewN m) = .ok (.tuple #[.int .i64 (fo (fs.take k) at'), .bool (!(fo (fs.take k) at' == 0))]) ((wr.alloc (.cells #[.int .i64 at', .int .i64 kd] 140)).drewN m) := fun m => hKM.look2 (w := (wr.alloc (.cells #[.int .i64 at', .int .i64 kd] 140)).drewN m) (hp_alloc hM _) at'
      have hl0 : (Instr.lookup 85 (.map (some (w.heap.size + 1))) (.int .i64 at') true).run Tryz.prog (wr.alloc (.cells #[.int .i64 at', .int .i64 kd] 140)) = .ok (.tuple #[.int .i64 (fo (fs.take k) at'), .bool (!(fo (fs.take k) at' == 0))]) (wr.alloc (.cells #[.int .i64 at', .int .i64 kd] 140)) := hl 0
      have HI := hid (And.intro hM (And.intro hKM (And.intro hR hb)))
      have HT := hid ht
      have i2 : (k : Int) < (fs.length : Int) := by omega
      clear hcell y0 y1 hxe ht hM hKM hR hb
      obtain ⟨q, hq⟩ : ∃ q, q = fo (fs.take k) at' := ⟨_, rfl⟩
      rw [← hq] at hl0
      simp only [← hq] at hl
      have HQ := hid hq
      clear hq
      by_cases z1 : q = 0
      · subst z1
        by_cases z2 : 1 ≤ kd ∧ kd ≤ 3
        · obtain ⟨z3, z4⟩ := z2
          have hfn : Instr.findNow (.int .i64) (.int .i64 at') es.toList 0 = some none := by
            rcases HI.out.2.1 at' with ⟨_, f⟩ | ⟨e, _⟩
            · exact f
            · exact absurd HQ.out.symm e
          have HF2 := hid hfn
          clear hfn
          go_wp2_with (
            at_mapUpdate
            refine wpList_upd_new _ rfl _ _ _ 85 rfl 3 3 (.int .i64) Tryz.underlying85 Tryz.underlying3 (w.heap.size + 1) es c rfl (hp_alloc HI.out.1 _) (.int .i64 at') (.int .i64 kd) rfl rfl (key_int _) HF2.out ?_
            intro w2 hb2 hg2 hs2)
          go_roundw
          case rel =>
            obtain ⟨hM, hKM, hR, hb⟩ := HI.out
            have hRl := hp_lt hR
            refine ⟨k + 1, _, _, by omega, by go_num, hb2.out, ?_, ?_, ?_⟩
            · rw [HT.out]
              exact hKM.more (at', kd) HQ.out.symm z3 z4 c
            · exact (hg2.out.block w.heap.size (by simp; omega) (by simp)).trans (hp_alloc hR _)
            · exact (hb.alloc hb.size _).grown hg2.out (by have := hb.size; simp; omega) (fun k e => by cases e; omega)
          case measure => simp [intOf]; omega
        · have hrel : ∃ k' es' c', k' ≤ fs.length ∧ Value.int .i64 ((k : Int) + 1) = .int .i64 (k' : Nat) ∧ (wr.alloc (.cells #[.int .i64 at', .int .i64 kd] 140)).heap[w.heap.size + 1]? = some (.map es' c') ∧ KM es' (fs.take k') ∧ (wr.alloc (.cells #[.int .i64 at', .int .i64 kd] 140)).heap[w.heap.size]? = some (.cells #[.int .i64 0, .map none] 87 (0, 0)) ∧ Below w.heap.size w (wr.alloc (.cells #[.int .i64 at', .int .i64 kd] 140)) := by
            obtain ⟨hM, hKM, hR, hb⟩ := HI.out
            refine ⟨k + 1, es, c, by omega, by go_num, hp_alloc hM _, ?_, hp_alloc hR _, hb.alloc hb.size _⟩
            rw [HT.out]
            exact hKM.same (at', kd) (.inr z2)
          have HRel := hid hrel
          clear hrel
          by_cases z5 : 1 ≤ kd
          · have z6 : ¬ kd ≤ 3 := fun h => z2 ⟨z5, h⟩
            clear z2
            go_wp2
            go_roundw
            case rel => exact HRel.out
            case measure => simp [intOf]; omega
          · clear z2
            go_wp2
            go_roundw
            case rel => exact HRel.out
            case measure => simp [intOf]; omega
      · have hrel : ∃ k' es' c', k' ≤ fs.length ∧ Value.int .i64 ((k : Int) + 1) = .int .i64 (k' : Nat) ∧ (wr.alloc (.cells #[.int .i64 at', .int .i64 kd] 140)).heap[w.heap.size + 1]? = some (.map es' c') ∧ KM es' (fs.take k') ∧ (wr.alloc (.cells #[.int .i64 at', .int .i64 kd] 140)).heap[w.heap.size]? = some (.cells #[.int .i64 0, .map none] 87 (0, 0)) ∧ Below w.heap.size w (wr.alloc (.cells #[.int .i64 at', .int .i64 kd] 140)) := by
          obtain ⟨hM, hKM, hR, hb⟩ := HI.out
          refine ⟨k + 1, es, c, by omega, by go_num, hp_alloc hM _, ?_, hp_alloc hR _, hb.alloc hb.size _⟩
          rw [HT.out]
          exact hKM.same (at', kd) (.inl (by dsimp only; rw [← HQ.out]; exact z1))
        have HRel := hid hrel
        have z2 : (q == 0) = false := by simpa using z1
        rw [z2] at hl0
        clear hrel hl z1
        go_wp2
        go_roundw
        case rel => exact HRel.out
        case measure => simp [intOf]; omega
    · have hke := hid (show k = fs.length by omega)
      have i3 : ¬ (k : Int) < (fs.length : Int) := by omega
      have c0 : wr.cell? ⟨w.heap.size, 0, none⟩ = some (.int .i64 0) := by rw [cell_of_row wr _ 0 _ _ _ hR]; rfl
      have c1 : wr.cell? ⟨w.heap.size, 1, none⟩ = some (.map none) := by rw [cell_of_row wr _ 1 _ _ _ hR]; rfl
      have ff : ∀ i, wr.frozen? ⟨w.heap.size, i, none⟩ = false := fun i => free_of_block hR
      have HI := hid (And.intro hM (And.intro hKM (And.intro hR hb)))
      clear hM hKM hR hb
      go_wp2
      refine bodyPost_ret (v := .agg #[.int .i64 0, .map (some (w.heap.size + 1))]) (by simp [results, Tryz.results48, go_sem, c0, c1]; try omega) rfl ?_
      obtain ⟨hM, hKM, hR, hb⟩ := HI.out
      rw [hke.out, List.take_length] at hKM
      refine ⟨w.heap.size + 1, rfl, es, ⟨c, ?_⟩, hKM, by omega, (hb.setCell (p := ⟨w.heap.size, 0, none⟩) (Nat.le_refl _) _).setCell (p := ⟨w.heap.size, 1, none⟩) (Nat.le_refl _) _⟩
      exact hp_set (hp_set hM (by simp) _) (by simp) _

theorem fo_drop (l : List (Int × Int)) (k : Nat) (x : Int × Int) (n : Int) (hx : l[k]? = some x) : fo (l.drop k) n = if x.1 = n ∧ 1 ≤ x.2 ∧ x.2 ≤ 3 then x.2 else fo (l.drop (k + 1)) n := by
  have hk : k < l.length := by
    rcases Nat.lt_or_ge k l.length with h | h
    · exact h
    · rw [List.getElem?_eq_none h] at hx; cases hx
  have e : l[k] = x := by simpa [hk] using hx
  rw [List.drop_eq_getElem_cons hk, e]
  rfl

theorem Tryz.info140 : (Tryz.prog.info? 140).map (fun i => (i.zero, i.size, i.bytes)) = some (some (.agg #[.int .i64 0, .int .i64 0]), 2, 16) := by kernel_rfl

end Go.Proofs.YtlmompdfombgeabGreat

namespace Go.Proofs.YtlmompdfombgeabGreat
open Go.RowKit Go.MapKept

/-- A map that tells these faults. -/
def KF (w : World) (k : Value) (fs : List (Int × Int)) : Prop := (k = .map none ∧ fs = []) ∨ ∃ b es c, k = .map (some b) ∧ w.heap[b]? = some (.map es c) ∧ KM es fs

theorem KF.look {w : World} {k : Value} {fs : List (Int × Int)} (h : KF w k fs) (n : Int) : (Instr.lookup 85 k (.int .i64 n) false).run Tryz.prog w = .ok (.int .i64 (fo fs n)) w := by
  rcases h with ⟨rfl, rfl⟩ | ⟨b, es, c, rfl, hb, hk⟩
  · exact look_nil Tryz.underlying85 Tryz.underlying3 (key_int n) (zero3 w) false
  · exact hk.look hb n

theorem KF.kept {w w' : World} {k : Value} {fs : List (Int × Int)} {S : Nat → Prop} (h : KF w k fs) (hk : Kept S w w') (hS : ∀ b es c, w.heap[b]? = some (.map es c) → ¬ S b) : KF w' k fs := by
  rcases h with h | ⟨b, es, c, rfl, hb, hm⟩
  · exact .inl h
  · exact .inr ⟨b, es, c, rfl, hp_kept hb hk (hS b es c hb), hm⟩

/-- The error of a fault. -/
def fe (k : Int) : Int := if k = 1 then 11 else if k = 2 then 10 else if k = 3 then 8 else 0

/-- A zero disk: nothing but the power, the strokes and the planned faults. -/
def ZD (w : World) (d : Nat) (off : Bool) (cs : Int) (fs : List (Int × Int)) : Prop :=
  ∃ L k1 k2, DiskB w d 0 0 L 0 (.map none) (.map none) (.slice none 0 0) off cs k1 0 k2 ∧ NoKinds w L ∧ KF w k1 fs

theorem ZD.kept {w w' : World} {d : Nat} {off : Bool} {cs : Int} {fs : List (Int × Int)} {S : Nat → Prop} (h : ZD w d off cs fs) (hk : Kept S w w') (hd : ¬ S d) (hS : ∀ b es c, w.heap[b]? = some (.map es c) → ¬ S b) : ZD w' d off cs fs := by
  obtain ⟨L, k1, k2, h1, h2, h3⟩ := h
  exact ⟨L, k1, k2, hp_kept h1 hk hd, h2.kept hk (fun b c hb => hS b _ c hb), h3.kept hk hS⟩

theorem ZD.below {w w' : World} {d : Nat} {off : Bool} {cs : Int} {fs : List (Int × Int)} (h : ZD w d off cs fs) (hk : Below w.heap.size w w') : ZD w' d off cs fs := h.kept (Kept.ofBelow hk) (fun e => e) (fun _ _ _ _ e => e)

theorem ZD.lt {w : World} {d : Nat} {off : Bool} {cs : Int} {fs : List (Int × Int)} (h : ZD w d off cs fs) : d < w.heap.size := by
  obtain ⟨L, k1, k2, h1, h2, h3⟩ := h
  exact hp_lt h1

/-- The document's zero disk. -/
def ZR (w : World) (r : Nat) (off : Bool) (cs : Int) (fs : List (Int × Int)) : Prop :=
  ∃ sv rv, w.heap[r]? = some (.cells #[.int .i64 0, .int .i64 0, .int .i64 0, .slice none 0 0, .slice none 0 0, .slice none 0 0, sv, rv, .int .i64 cs, .int .i64 0, .bool off] 58 (0, 0)) ∧ Fl w sv fs ∧ (∀ k, sv.ownBlock = some k → r < k) ∧ ∃ a n c, rv = .slice a n c

theorem ZR.kept {w w' : World} {r : Nat} {off : Bool} {cs : Int} {fs : List (Int × Int)} {S : Nat → Prop} (h : ZR w r off cs fs) (hk : Kept S w w') (hd : ¬ S r) (hS : ∀ b, r < b → ¬ S b) : ZR w' r off cs fs := by
  obtain ⟨sv, rv, h1, h2, h3⟩ := h
  exact ⟨sv, rv, hp_kept h1 hk hd, Rf.kept h2 hk (fun b hb => hS b (h3.1 b hb)), h3⟩

theorem ZR.below {w w' : World} {r : Nat} {off : Bool} {cs : Int} {fs : List (Int × Int)} (h : ZR w r off cs fs) (hk : Below w.heap.size w w') : ZR w' r off cs fs := h.kept (Kept.ofBelow hk) (fun e => e) (fun _ _ e => e)

/-- What a name's file answers on a disk without files. -/
def kE (off : Bool) (nm : ByteArray) : Int := if off then 11 else if nmOK nm then 6 else 5
/-- A stroke's answer, the power behind it, the strokes. -/
def snP (off : Bool) (cs : Int) (fs : List (Int × Int)) : Int × Bool × Int := if off then (11, true, cs) else (fe (fo fs (cs + 1)), decide (fo fs (cs + 1) = 1), cs + 1)
def crP (off : Bool) (nm : ByteArray) (cs : Int) (fs : List (Int × Int)) : Int × Bool × Int := if kE off nm = 6 then (if fe (fo fs (cs + 1)) = 0 then 9 else fe (fo fs (cs + 1)), decide (fo fs (cs + 1) = 1), cs + 1) else (kE off nm, off, cs)

theorem Kept.drewN {S : Nat → Prop} {a w : World} (h : Kept S a w) (n : Nat) : Kept S a (w.drewN n) := ⟨h.os, h.tape, h.output, h.size, h.block⟩

theorem NoKinds.len {w : World} {L : Value} (h : NoKinds w L) (ty : TypeId) : (Builtin.len_ #[82] ty #[L]).run Tryz.prog w = .ok (.int .i64 0) w := by
  rcases h with rfl | ⟨b, c, rfl, hb⟩
  · simp [Builtin.len_, run_underlying Tryz.underlying82, goInt]
  · simpa using len_map (w := w) Tryz.underlying82 hb ty

set_option maxRecDepth 100000 in
set_option maxHeartbeats 1000000 in
/-- A stroke that is counted, and its fault. -/
theorem count_z (d : Nat) (n : Int) (fs : List (Int × Int)) (w : World) (h : ZD w d false n fs) (hn0 : 0 ≤ n) (hn : n ≤ 1000000000) :
    Calls Tryz.prog 63 #[.pointer (some ⟨d, 0, none⟩), .pointer (some ⟨d, 8, none⟩)] w fun x w' => x = .returned (.int .i64 (fe (fo fs (n + 1)))) ∧ ZD w' d (decide (fo fs (n + 1) = 1)) (n + 1) fs ∧ Kept (fun k => k = d) w w' := by
  obtain ⟨L, k, k2, hd, hL, hk⟩ := h
  obtain ⟨-, -, -, -, -, -, -, c7, c8, c9, -, -⟩ := hd.cells
  have ff := hd.free
  have hmp : ∀ b es c, w.heap[b]? = some (.map es c) → ¬ b = d := fun b es c hb e => by subst e; exact hp_ne hd hb (by simp) rfl
  have hk2 : KF (w.setCell ⟨d, 8, none⟩ (.int .i64 (n + 1))) k fs := hk.kept (S := fun k => k = d) ((Kept.refl (fun k => k = d) w).setCell (p := ⟨d, 8, none⟩) (fun _ => rfl) _) hmp
  have hl : ∀ m, (Instr.lookup 85 k (.int .i64 (n + 1)) false).run Tryz.prog ((w.setCell ⟨d, 8, none⟩ (.int .i64 (n + 1))).drewN m) = .ok (.int .i64 (fo fs (n + 1))) ((w.setCell ⟨d, 8, none⟩ (.int .i64 (n + 1))).drewN m) := fun m => KF.look (w := (w.setCell ⟨d, 8, none⟩ (.int .i64 (n + 1))).drewN m) hk2 _
  have hr := fo_range fs (n + 1)
  obtain ⟨q, hq⟩ : ∃ q, q = fo fs (n + 1) := ⟨_, rfl⟩
  rw [← hq] at hr ⊢
  simp only [← hq] at hl
  have HZ := hid (And.intro hd (And.intro hL (And.intro hk hmp)))
  clear hq hd hL hk hk2 hmp
  have hcase : q = 0 ∨ q = 1 ∨ q = 2 ∨ q = 3 := by omega
  clear hr
  have fin : ∀ nq, ZD ((w.setCell ⟨d, 8, none⟩ (.int .i64 (n + 1))).drewN nq) d false (n + 1) fs ∧ Kept (fun k => k = d) w ((w.setCell ⟨d, 8, none⟩ (.int .i64 (n + 1))).drewN nq) := by
    intro nq
    obtain ⟨hd, hL, hk, hmp⟩ := HZ.out
    have K : Kept (fun k => k = d) w ((w.setCell ⟨d, 8, none⟩ (.int .i64 (n + 1))).drewN nq) := ((Kept.refl (fun k => k = d) w).setCell (p := ⟨d, 8, none⟩) (fun _ => rfl) _).drewN nq
    exact ⟨⟨L, k, k2, set_block (i := 8) hd _, hL.kept K (fun b c hb => hmp b _ c hb), hk.kept K hmp⟩, K⟩
  have fin1 : ∀ nq, ZD (((w.setCell ⟨d, 8, none⟩ (.int .i64 (n + 1))).setCell ⟨d, 7, none⟩ (.bool true)).drewN nq) d true (n + 1) fs ∧ Kept (fun k => k = d) w (((w.setCell ⟨d, 8, none⟩ (.int .i64 (n + 1))).setCell ⟨d, 7, none⟩ (.bool true)).drewN nq) := by
    intro nq
    obtain ⟨hd, hL, hk, hmp⟩ := HZ.out
    have K : Kept (fun k => k = d) w (((w.setCell ⟨d, 8, none⟩ (.int .i64 (n + 1))).setCell ⟨d, 7, none⟩ (.bool true)).drewN nq) := (((Kept.refl (fun k => k = d) w).setCell (p := ⟨d, 8, none⟩) (fun _ => rfl) _).setCell (p := ⟨d, 7, none⟩) (fun _ => rfl) _).drewN nq
    exact ⟨⟨L, k, k2, set_block (i := 7) (set_block (i := 8) hd _) _, hL.kept K (fun b c hb => hmp b _ c hb), hk.kept K hmp⟩, K⟩
  have F0 := hid fin
  have F1 := hid fin1
  clear fin fin1 HZ
  rcases hcase with rfl | rfl | rfl | rfl
  · go_enter Tryz.func63, Tryz.ntmps63
    go_wp2
    go_quiet (fail)
    go_wp2
    go_ret
    exact ⟨rfl, F0.out _⟩
  · go_enter Tryz.func63, Tryz.ntmps63
    go_wp2
    go_quiet (fail)
    go_wp2
    go_ret
    exact ⟨rfl, F1.out _⟩
  · go_enter Tryz.func63, Tryz.ntmps63
    go_wp2
    go_quiet (fail)
    go_wp2
    go_ret
    exact ⟨rfl, F0.out _⟩
  · go_enter Tryz.func63, Tryz.ntmps63
    go_wp2
    go_quiet (fail)
    go_wp2
    go_ret
    exact ⟨rfl, F0.out _⟩

set_option maxRecDepth 100000 in
set_option maxHeartbeats 1000000 in
theorem stroke_bad (d fn : Nat) (a b c fv : Value) (cap : Array Value) (r : Int) (w : World) (R1 R2 : World → Prop) (hr : (r == 0) = false) (_ha : a.cells = #[a]) (_hb : b.cells = #[b]) (_hc : c.cells = #[c])
    (hfind : Calls Tryz.prog 61 #[.pointer (some ⟨d, 0, none⟩), .agg #[a, b, c]] (w.alloc (.cells #[a, b, c] 109)) fun x w1 => x = .returned (.tuple #[fv, .int .i64 0]) ∧ R1 w1)
    (hcount : ∀ w1, R1 w1 → Calls Tryz.prog 63 #[.pointer (some ⟨d, 0, none⟩), .pointer (some ⟨d, 8, none⟩)] w1 fun x w2 => x = .returned (.int .i64 r) ∧ R2 w2) :
    Calls Tryz.prog 49 #[.pointer (some ⟨d, 0, none⟩), .agg #[a, b, c], .func (.func fn) #[] cap] w fun x w3 => x = .returned (.int .i64 r) ∧ R2 w3 := by
  have HF := hid hfind
  have HC := hid hcount
  clear hfind hcount
  go_enter Tryz.func49, Tryz.ntmps49
  go_wp2_with (first
    | (go_at_call 61; refine HF.out.mono ?_; rintro e w1 ⟨rfl, h1⟩; have H1 := hid h1; clear h1)
    | (go_at_call 63; refine (HC.out _ H1.out).mono ?_; rintro e w2 ⟨rfl, h2⟩; have H2 := hid h2; clear h2))
  go_ret
  exact ⟨rfl, H2.out⟩

set_option maxRecDepth 100000 in
set_option maxHeartbeats 1000000 in
/-- Power is off: every rule says so. -/
theorem find_off (d : Nat) (a b c : Value) (w : World) (c7 : w.cell? ⟨d, 7, none⟩ = some (.bool true)) (_ha : a.cells = #[a]) (_hb : b.cells = #[b]) (_hc : c.cells = #[c]) :
    Calls Tryz.prog 61 #[.pointer (some ⟨d, 0, none⟩), .agg #[a, b, c]] w fun x w' => x = .returned (.tuple #[.pointer none, .int .i64 11]) ∧ Below w.heap.size w w' := by
  have hnw := World.new_ne w ⟨d, 7, none⟩ c7
  have hdl := World.block_lt_of_cell? _ _ c7
  go_enter Tryz.func61, Tryz.ntmps61
  go_wp2
  go_ret2
  exact ⟨rfl, (Below.refl _ _).alloc (Nat.le_refl _) _⟩

set_option maxRecDepth 100000 in
set_option maxHeartbeats 1000000 in
/-- One name on a disk without names. -/
theorem find_nil1 (d g : Nat) (nm : ByteArray) (ab : Bool) (sz : Int) (w : World) (c7 : w.cell? ⟨d, 7, none⟩ = some (.bool false)) (c4 : w.cell? ⟨d, 4, none⟩ = some (.map none)) (hg : w.cell? ⟨g, 0, none⟩ = some (.string nm)) (hs : nm.size ≤ maxLen) :
    Calls Tryz.prog 61 #[.pointer (some ⟨d, 0, none⟩), .agg #[.slice (some ⟨g, 0, none⟩) 1 1, .bool ab, .int .i64 sz]] w fun x w' => x = .returned (.tuple #[.pointer none, .int .i64 (if nmOK nm then (if ab then 0 else 6) else 5)]) ∧ Below w.heap.size w w' := by
  have hdl := World.block_lt_of_cell? _ _ c7
  have hgl := World.block_lt_of_cell? _ _ hg
  have hl : ∀ m, (Instr.lookup 83 (.map none) (.string nm) true).run Tryz.prog ((w.alloc (.cells #[.slice (some ⟨g, 0, none⟩) 1 1, .bool ab, .int .i64 sz] 109)).drewN m) = .ok (.tuple #[.int .i64 0, .bool false]) ((w.alloc (.cells #[.slice (some ⟨g, 0, none⟩) 1 1, .bool ab, .int .i64 sz] 109)).drewN m) := fun m =>
    look_nil (w := (w.alloc (.cells #[.slice (some ⟨g, 0, none⟩) 1 1, .bool ab, .int .i64 sz] 109)).drewN m) Tryz.underlying83 Tryz.underlying9 (key_str nm) (zero3 _) true
  cases hok : nmOK nm
  · go_enter Tryz.func61, Tryz.ntmps61
    go_wp2
    refine wp_loop_rounds 2 ?_
    rw [rounds_succ]
    go_wp2_with (go_at_call 67; refine (isName_any nm _ hs).mono ?_; rw [hok]; rintro e w' ⟨rfl, rfl⟩)
    go_ret2
    exact ⟨rfl, (Below.refl _ _).alloc (Nat.le_refl _) _⟩
  · cases ab
    · go_enter Tryz.func61, Tryz.ntmps61
      go_wp2
      refine wp_loop_rounds 2 ?_
      rw [rounds_succ]
      go_wp2_with (go_at_call 67; refine (isName_any nm _ hs).mono ?_; rw [hok]; rintro e w' ⟨rfl, rfl⟩)
      rw [rounds_succ]
      go_wp2
      go_quiet (fail)
      go_wp2
      go_ret2
      exact ⟨rfl, below_drewN ((Below.refl _ _).alloc (Nat.le_refl _) _) _⟩
    · go_enter Tryz.func61, Tryz.ntmps61
      go_wp2
      refine wp_loop_rounds 2 ?_
      rw [rounds_succ]
      go_wp2_with (go_at_call 67; refine (isName_any nm _ hs).mono ?_; rw [hok]; rintro e w' ⟨rfl, rfl⟩)
      rw [rounds_succ]
      go_wp2
      go_quiet (fail)
      go_wp2
      go_ret2
      exact ⟨rfl, below_drewN ((Below.refl _ _).alloc (Nat.le_refl _) _) _⟩

set_option maxRecDepth 100000 in
set_option maxHeartbeats 1000000 in
/-- Two names on a disk without names. -/
theorem find_nil2 (d g : Nat) (nm mn : ByteArray) (w : World) (c7 : w.cell? ⟨d, 7, none⟩ = some (.bool false)) (c4 : w.cell? ⟨d, 4, none⟩ = some (.map none)) (hg : w.cell? ⟨g, 0, none⟩ = some (.string nm)) (hg1 : w.cell? ⟨g, 1, none⟩ = some (.string mn)) (hs : nm.size ≤ maxLen) (hs1 : mn.size ≤ maxLen) :
    Calls Tryz.prog 61 #[.pointer (some ⟨d, 0, none⟩), .agg #[.slice (some ⟨g, 0, none⟩) 2 2, .bool false, .int .i64 0]] w fun x w' => x = .returned (.tuple #[.pointer none, .int .i64 (if nmOK nm && nmOK mn then 6 else 5)]) ∧ Below w.heap.size w w' := by
  have hdl := World.block_lt_of_cell? _ _ c7
  have hgl := World.block_lt_of_cell? _ _ hg
  have hl : ∀ m, (Instr.lookup 83 (.map none) (.string nm) true).run Tryz.prog ((w.alloc (.cells #[.slice (some ⟨g, 0, none⟩) 2 2, .bool false, .int .i64 0] 109)).drewN m) = .ok (.tuple #[.int .i64 0, .bool false]) ((w.alloc (.cells #[.slice (some ⟨g, 0, none⟩) 2 2, .bool false, .int .i64 0] 109)).drewN m) := fun m =>
    look_nil (w := (w.alloc (.cells #[.slice (some ⟨g, 0, none⟩) 2 2, .bool false, .int .i64 0] 109)).drewN m) Tryz.underlying83 Tryz.underlying9 (key_str nm) (zero3 _) true
  cases hok : nmOK nm
  · go_enter Tryz.func61, Tryz.ntmps61
    go_wp2
    refine wp_loop_rounds 3 ?_
    rw [rounds_succ]
    go_wp2_with (go_at_call 67; refine (isName_any nm _ hs).mono ?_; rw [hok]; rintro e w' ⟨rfl, rfl⟩)
    go_ret2
    exact ⟨rfl, (Below.refl _ _).alloc (Nat.le_refl _) _⟩
  · cases hok1 : nmOK mn
    · go_enter Tryz.func61, Tryz.ntmps61
      go_wp2
      refine wp_loop_rounds 3 ?_
      rw [rounds_succ]
      go_wp2_with (go_at_call 67; refine (isName_any nm _ hs).mono ?_; rw [hok]; rintro e w' ⟨rfl, rfl⟩)
      rw [rounds_succ]
      go_wp2_with (go_at_call 67; refine (isName_any mn _ hs1).mono ?_; rw [hok1]; rintro e w' ⟨rfl, rfl⟩)
      go_ret2
      exact ⟨rfl, (Below.refl _ _).alloc (Nat.le_refl _) _⟩
    · go_enter Tryz.func61, Tryz.ntmps61
      go_wp2
      refine wp_loop_rounds 3 ?_
      rw [rounds_succ]
      go_wp2_with (go_at_call 67; refine (isName_any nm _ hs).mono ?_; rw [hok]; rintro e w' ⟨rfl, rfl⟩)
      rw [rounds_succ]
      go_wp2_with (go_at_call 67; refine (isName_any mn _ hs1).mono ?_; rw [hok1]; rintro e w' ⟨rfl, rfl⟩)
      rw [rounds_succ]
      go_wp2
      go_quiet (fail)
      go_wp2
      go_ret2
      exact ⟨rfl, below_drewN ((Below.refl _ _).alloc (Nat.le_refl _) _) _⟩

end Go.Proofs.YtlmompdfombgeabGreat

namespace Go.Proofs.YtlmompdfombgeabGreat
open Go.RowKit Go.MapKept

/-- A sum over entries. -/
def sumE (f : MapEntry → Int) (l : List MapEntry) : Int := (l.map f).sum

theorem sumE_cons (f : MapEntry → Int) (e : MapEntry) (l : List MapEntry) : sumE f (e :: l) = f e + sumE f l := by simp [sumE]

theorem sumE_nonneg (f : MapEntry → Int) : ∀ l : List MapEntry, (∀ e ∈ l, 0 ≤ f e) → 0 ≤ sumE f l
  | [], _ => by simp [sumE]
  | e :: l, h => by
    rw [sumE_cons]
    have h1 := h e (by simp)
    have h2 := sumE_nonneg f l (fun x hx => h x (by simp [hx]))
    omega

theorem sumE_filter_none (f : MapEntry → Int) (b : Nat) : ∀ l : List MapEntry, (∀ e ∈ l, e.born ≠ b) → l.filter (fun x => !(x.born == b)) = l
  | [], _ => rfl
  | x :: l, h => by
    have hx := h x (by simp)
    rw [List.filter_cons, if_pos (by simpa using hx), sumE_filter_none f b l (fun e he => h e (by simp [he]))]

theorem sumE_without (f : MapEntry → Int) (e : MapEntry) : ∀ l : List MapEntry, (l.map MapEntry.born).Nodup → e ∈ l → sumE f (l.filter (fun x => !(x.born == e.born))) + f e = sumE f l
  | [], _, h => by simp at h
  | x :: l, hn, h => by
    rw [List.map_cons, List.nodup_cons] at hn
    rw [sumE_cons]
    rcases List.mem_cons.1 h with rfl | h
    · have hne : ∀ y ∈ l, y.born ≠ e.born := fun y hy hb => hn.1 (List.mem_map.2 ⟨y, hy, hb⟩)
      rw [List.filter_cons, if_neg (by simp), sumE_filter_none f e.born l hne]
      omega
    · have hxe : x.born ≠ e.born := fun hb => hn.1 (List.mem_map.2 ⟨e, h, hb.symm⟩)
      rw [List.filter_cons, if_pos (by simpa using hxe), sumE_cons]
      have := sumE_without f e l hn.2 h
      omega

theorem left_push (es : Array MapEntry) (seen : Array Nat) (b : Nat) : (leftOf es (seen.push b)).toList = (leftOf es seen).toList.filter (fun x => !(x.born == b)) := by
  simp only [leftOf, Array.toList_filter, List.filter_filter]
  congr 1
  funext x
  by_cases h : x.born = b <;> simp [h]

theorem left_zero (es : Array MapEntry) : (leftOf es #[]).toList = es.toList := by
  simp [leftOf]

/-- Whatever the tape says. -/
theorem choose_dn (n : Nat) (w : World) (h : 0 < n) : ∃ j m, j < n ∧ (choose (Question.mapNext n)).run Tryz.prog w = .ok j (w.drewN m) := by
  by_cases hf : n ≤ 1
  · exact ⟨0, 0, h, by simp [choose, Sem.run, Question.forced, hf]; rfl⟩
  · exact ⟨_, 1, Nat.mod_lt _ h, by
      simp only [choose, Sem.run, Question.forced, decide_eq_true_eq, hf, if_false, Question.cut]
      rfl⟩

/-- The next entry of a map that is as it was when the loop began. -/
theorem next_any (w : World) (ty : TypeId) (bm c : Nat) (seen : Array Nat) (es : Array MapEntry) (hb : w.heap[bm]? = some (.map es c)) (hold : ∀ x ∈ es.toList, x.born < c) :
    ((leftOf es seen).size = 0 ∧ (Instr.next (.pointer (some ⟨w.heap.size, 0, none⟩)) false ty).run Tryz.prog (w.alloc (.mapIter (some bm) c seen c)) = .ok (.tuple #[.bool false]) (w.alloc (.mapIter (some bm) c seen c))) ∨
    ∃ e ∈ (leftOf es seen).toList, ∃ m, (Instr.next (.pointer (some ⟨w.heap.size, 0, none⟩)) false ty).run Tryz.prog (w.alloc (.mapIter (some bm) c seen c)) = .ok (.tuple #[.bool true, e.key, e.val]) ((w.drewN m).alloc (.mapIter (some bm) c (seen.push e.born) c)) := by
  have hb' := hp_alloc hb (.mapIter (some bm) c seen c)
  have hm : ∀ x ∈ (leftOf es seen).toList, x.born < c := fun x hx => hold x (by simp [leftOf] at hx ⊢; exact hx.1)
  have e1 : (leftOf es seen).filter (fun x => decide (x.born < c)) = leftOf es seen := Array.filter_eq_self.2 (fun x hx => by simpa using hm x (by simpa using hx))
  have e2 : (leftOf es seen).filter (fun x => decide (x.born ≥ c)) = #[] := by
    rw [Array.filter_eq_empty_iff]
    intro x hx
    have := hm x (by simpa using hx)
    simp
    omega
  simp only [Instr.next, getObj, Sem.run_bind, Sem.run, hp_new, hb', Result.andThen, next_test_false seen es c c hold (Nat.le_refl _), Bool.false_eq_true, if_false]
  unfold leftOf at e1 e2 ⊢
  generalize Array.filter (fun e => !seen.contains e.born) es = L at e1 e2 ⊢
  simp only [e1, e2, Array.append_empty]
  by_cases h0 : L.size = 0
  · left
    obtain rfl : L = #[] := Array.eq_empty_of_size_eq_zero h0
    exact ⟨rfl, by simp [choose, Sem.run, Question.forced]⟩
  · right
    obtain ⟨j, m, hj, hrun⟩ := choose_dn L.size (w.alloc (.mapIter (some bm) c seen c)) (by omega)
    have hne : L.isEmpty = false := by simp [Array.isEmpty, h0]
    refine ⟨L[j], by simp, m, ?_⟩
    have hs := fun o' => set_last (w.drewN m) (some bm) c seen c o'
    simp only [hne, Bool.false_eq_true, if_false, Array.empty_append, Array.size_map, hrun, Array.getElem?_map, Array.getElem?_eq_getElem hj, Option.map_some, Sem.run_bind, Result.andThen]
    have hs' : (setObj w.heap.size (.mapIter (some bm) c (seen.push L[j].born) c)).run Tryz.prog ((w.alloc (.mapIter (some bm) c seen c)).drewN m) = .ok () ((w.drewN m).alloc (.mapIter (some bm) c (seen.push L[j].born) c)) := hs _
    simp only [hs']
    rfl

/-- What an iterator has seen. -/
def seenOf (w : World) (b : Nat) : Array Nat := match w.heap[b]? with | some (.mapIter _ _ s _) => s | _ => #[]

/-- The files of a map: each entry's value is a file whose peak is pk. -/
def Peaks (w : World) (es : Array MapEntry) (pk : MapEntry → Int) : Prop := ∀ e ∈ es.toList, ∃ p, e.val = .pointer (some ⟨p, 0, none⟩) ∧ w.cell? ⟨p, 4, none⟩ = some (.int .i64 (pk e)) ∧ 0 ≤ pk e

set_option maxRecDepth 100000 in
set_option maxHeartbeats 1600000 in
theorem held_any (L c : Nat) (es : Array MapEntry) (pk : MapEntry → Int) (w : World) (hL : w.heap[L]? = some (.map es c)) (hold : ∀ x ∈ es.toList, x.born < c) (hnd : (es.toList.map MapEntry.born).Nodup) (hp : Peaks w es pk) (hs : sumE pk es.toList ≤ 1000000000) (_hn : es.size ≤ 1000000) :
    Calls Tryz.prog 57 #[.map (some L)] w fun x w' => x = .returned (.tuple #[.int .i64 (sumE pk es.toList), .int .i64 es.size]) ∧ Below w.heap.size w w' := by
  have hr := run_range_map (P := Tryz.prog) w 82 3 97 L _ c Tryz.underlying82 hL
  have HL := hid (And.intro hL (And.intro hold (And.intro hnd hp)))
  clear hL hold hnd hp
  go_enter Tryz.func57, Tryz.ntmps57
  go_wp2
  go_loopw [2] (fun b wr => ∃ (seen : Array Nat) (m : Nat) (t : Int), wr = (w.drewN m).alloc (.mapIter (some L) c seen c) ∧ b = .int .i64 t ∧ 0 ≤ t ∧ t ≤ 1000000000 ∧ Hid (t + sumE pk (leftOf es seen).toList = sumE pk es.toList)) (fun _ wr => (leftOf es (seenOf wr w.heap.size)).size)
  case atStart => exact ⟨#[], 0, 0, rfl, by go_num, by omega, by omega, hid (by rw [left_zero]; omega)⟩
  case round =>
    obtain ⟨seen, m, t, rfl, rfl, ht0, ht1, HT⟩ := hrel
    obtain ⟨hL, hold, hnd, hp⟩ := HL.out
    rcases next_any (w.drewN m) 0 L c seen es hL hold with ⟨hz, hx⟩ | ⟨e, he, q, hx⟩
    · replace hx : (Instr.next (.pointer (some ⟨w.heap.size, 0, none⟩)) false 0).run Tryz.prog ((w.drewN m).alloc (.mapIter (some L) c seen c)) = .ok (.tuple #[.bool false]) ((w.drewN m).alloc (.mapIter (some L) c seen c)) := hx
      have hl0 : (leftOf es seen).toList = [] := by
        have : leftOf es seen = #[] := Array.eq_empty_of_size_eq_zero hz
        simp [this]
      have hte : t = sumE pk es.toList := by
        have := HT.out
        rw [hl0] at this
        simpa [sumE] using this
      have hlen := fun ty => len_map (w := (w.drewN m).alloc (.mapIter (some L) c seen c)) Tryz.underlying82 (hp_alloc hL _) ty
      have HTE := hid hte
      clear hL hold hnd hp hz hl0 hte
      go_wp2
      go_ret2
      exact ⟨by rw [HTE.out]; rfl, (below_drewN (Below.refl _ w) m).alloc (Nat.le_refl _) _⟩
    · replace hx : (Instr.next (.pointer (some ⟨w.heap.size, 0, none⟩)) false 0).run Tryz.prog ((w.drewN m).alloc (.mapIter (some L) c seen c)) = .ok (.tuple #[.bool true, e.key, e.val]) ((w.drewN (m + q)).alloc (.mapIter (some L) c (seen.push e.born) c)) := by
        rw [World.drewN_drewN] at hx
        exact hx
      have hes : e ∈ es.toList := by simp [leftOf] at he ⊢; exact he.1
      obtain ⟨p, hv, hpc, hp0⟩ := hp e hes
      have hen := run_entry_map (P := Tryz.prog) (w.drewN (m + q)) L c seen es c e hL hes hnd
      replace hen : (Instr.entry (.pointer (some ⟨w.heap.size, 0, none⟩))).run Tryz.prog ((w.drewN (m + q)).alloc (.mapIter (some L) c (seen.push e.born) c)) = .ok (.tuple #[e.key, e.val]) ((w.drewN (m + q)).alloc (.mapIter (some L) c (seen.push e.born) c)) := hen
      rw [hv] at hx hen
      have hpl := World.block_lt_of_cell? _ _ hpc
      have hpc2 : ((w.drewN (m + q)).alloc (.mapIter (some L) c (seen.push e.born) c)).cell? ⟨p, 4, none⟩ = some (.int .i64 (pk e)) := (World.cell?_alloc_past (w := w.drewN (m + q)) _ _ _ (show p < (w.drewN (m + q)).heap.size from hpl)).trans hpc
      have hnd2 : ((leftOf es seen).toList.map MapEntry.born).Nodup := by
        simp only [leftOf, Array.toList_filter]
        exact (List.Sublist.map _ (List.filter_sublist)).nodup hnd
      have hsum := sumE_without pk e _ hnd2 he
      rw [← left_push] at hsum
      have hnn : 0 ≤ sumE pk (leftOf es (seen.push e.born)).toList := sumE_nonneg pk _ (fun x hx => by
        have : x ∈ es.toList := by simp [leftOf] at hx ⊢; exact hx.1
        obtain ⟨_, _, _, h⟩ := hp x this
        exact h)
      have hT2 : (t + pk e) + sumE pk (leftOf es (seen.push e.born)).toList = sumE pk es.toList := by have := HT.out; omega
      have hlt : (leftOf es (seen.push e.born)).size < (leftOf es seen).size := by
        have e1 : (leftOf es (seen.push e.born)).size = (leftOf es (seen.push e.born)).toList.length := by simp
        have e2 : (leftOf es seen).size = (leftOf es seen).toList.length := by simp
        rw [e1, e2, left_push]
        exact List.length_filter_lt_length_iff_exists.2 ⟨e, he, by simp⟩
      have hub : t + pk e ≤ 1000000000 := by omega
      have HF := hid (And.intro hT2 hlt)
      obtain ⟨kk, hkk⟩ : ∃ kk, kk = pk e := ⟨_, rfl⟩
      rw [← hkk] at hpc2 hub hp0
      have HKK := hid hkk
      clear hL hold hnd hp hnd2 hsum hnn hT2 hlt hes he hpc hv hkk
      go_wp2
      go_roundw
      case rel => exact ⟨seen.push e.born, m + q, t + kk, rfl, by go_num, by omega, hub, hid (by rw [HKK.out]; exact HF.out.1)⟩
      case measure =>
        have e1 : seenOf ((w.drewN (m + q)).alloc (.mapIter (some L) c (seen.push e.born) c)) w.heap.size = seen.push e.born := by
          have := hp_new (w.drewN (m + q)) (.mapIter (some L) c (seen.push e.born) c)
          unfold seenOf
          rw [show w.heap.size = (w.drewN (m + q)).heap.size from rfl, this]
        have e2 : seenOf ((w.drewN m).alloc (.mapIter (some L) c seen c)) w.heap.size = seen := by
          have := hp_new (w.drewN m) (.mapIter (some L) c seen c)
          unfold seenOf
          rw [show w.heap.size = (w.drewN m).heap.size from rfl, this]
        rw [e1, e2]
        exact HF.out.2

end Go.Proofs.YtlmompdfombgeabGreat
