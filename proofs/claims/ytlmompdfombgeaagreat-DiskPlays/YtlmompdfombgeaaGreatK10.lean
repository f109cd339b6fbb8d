import Derived.Test.YtlmompdfombgeaaGreatK08
import Derived.Test.YtlmompdfombgeaaGreatK09
import Derived.Test.YtlmompdfombgeaaGreatK04
namespace Go.Proofs.YtlmompdfombgeaaGreat
open Go.RowKit Go.MapKept

/-- The fault of number n; 0: none. -/
def fo : List (Int × Int) → Int → Int
  | [], _ => 0
  | x :: l, n => if x.1 = n ∧ 1 ≤ x.2 ∧ x.2 ≤ 3 then x.2 else fo l n

theorem fo_range : ∀ (l : List (Int × Int)) (n : Int), 0 ≤ fo l n ∧ fo l n ≤ 3
  | [], _ => by simp [fo]
  | x :: l, n => by
    unfold fo
    split
    · omega
    · exact fo_range l n

theorem fo_snoc : ∀ (l : List (Int × Int)) (x : Int × Int) (n : Int), fo (l ++ [x]) n = if fo l n = 0 then (if x.1 = n ∧ 1 ≤ x.2 ∧ x.2 ≤ 3 then x.2 else 0) else fo l n
  | [], x, n => by simp [fo]
  | y :: l, x, n => by
    have ih := fo_snoc l x n
    rw [List.cons_append]
    unfold fo
    by_cases h : y.1 = n ∧ 1 ≤ y.2 ∧ y.2 ≤ 3
    · rw [if_pos h, if_pos h, if_neg (by omega)]
    · rw [if_neg h, if_neg h, ih]

/-- A map's entries tell the faults. -/
def KM (es : Array MapEntry) (fs : List (Int × Int)) : Prop := ∀ n, (fo fs n = 0 ∧ Instr.findNow (.int .i64) (.int .i64 n) es.toList 0 = some none) ∨ (fo fs n ≠ 0 ∧ ∃ i, Instr.findNow (.int .i64) (.int .i64 n) es.toList 0 = some (some (i, .int .i64 (fo fs n))))

theorem find_snoc (k : Value) (e : MapEntry) (b : Bool) (hs : Instr.sameNow (.int .i64) k e.key = some b) : ∀ (l : List MapEntry) (i : Nat), Instr.findNow (.int .i64) k (l ++ [e]) i = (Instr.findNow (.int .i64) k l i).bind (fun r => match r with | some x => some (some x) | none => if b then some (some (i + l.length, e.val)) else some none)
  | [], i => by
    cases b <;> simp [Instr.findNow, hs]
  | x :: l, i => by
    have ih := find_snoc k e b hs l (i + 1)
    rw [List.cons_append]
    unfold Instr.findNow
    split
    · rfl
    · rw [ih, List.length_cons, show i + 1 + l.length = i + (l.length + 1) by omega]
    · rfl

theorem KM.nil : KM #[] [] := fun _ => .inl ⟨rfl, rfl⟩

theorem KM.same {es : Array MapEntry} {fs : List (Int × Int)} (h : KM es fs) (x : Int × Int) (hx : fo fs x.1 ≠ 0 ∨ ¬ (1 ≤ x.2 ∧ x.2 ≤ 3)) : KM es (fs ++ [x]) := by
  intro n
  have e : fo (fs ++ [x]) n = fo fs n := by
    rw [fo_snoc]
    by_cases h0 : fo fs n = 0
    · rw [if_pos h0, if_neg, h0]
      rintro ⟨e, h1, h2⟩
      rcases hx with hx | hx
      · rw [e] at hx; exact hx h0
      · exact hx ⟨h1, h2⟩
    · rw [if_neg h0]
  rw [e]
  exact h n

theorem KM.more {es : Array MapEntry} {fs : List (Int × Int)} (h : KM es fs) (x : Int × Int) (_h0 : fo fs x.1 = 0) (h1 : 1 ≤ x.2) (h2 : x.2 ≤ 3) (c : Nat) : KM (es.push { key := .int .i64 x.1, val := .int .i64 x.2, born := c }) (fs ++ [x]) := by
  intro n
  have hs : Instr.sameNow (.int .i64) (.int .i64 n) (.int .i64 x.1) = some (n == x.1) := by simp [Instr.sameNow]
  rw [Array.toList_push, find_snoc (.int .i64 n) { key := .int .i64 x.1, val := .int .i64 x.2, born := c } (n == x.1) hs, fo_snoc]
  rcases h n with ⟨e, f⟩ | ⟨e, i, f⟩
  · rw [f, if_pos e]
    by_cases hn : x.1 = n
    · right
      rw [if_pos ⟨hn, h1, h2⟩]
      refine ⟨by omega, es.toList.length, ?_⟩
      have hb : (n == x.1) = true := by simp [hn]
      simp only [hb, Option.bind_some, if_true, Nat.zero_add]
    · left
      rw [if_neg (fun h => hn h.1)]
      have hb : (n == x.1) = false := by simpa using fun h => hn h.symm
      simp [hb]
  · right
    rw [if_neg e, f]
    exact ⟨e, i, rfl⟩

theorem KM.look {es : Array MapEntry} {fs : List (Int × Int)} (h : KM es fs) {w : World} {b c : Nat} (hb : w.heap[b]? = some (.map es c)) (n : Int) : (Instr.lookup 49 (.map (some b)) (.int .i64 n) false).run Tryz.prog w = .ok (.int .i64 (fo fs n)) w := by
  rcases h n with ⟨e, f⟩ | ⟨e, i, f⟩
  · rw [e]
    exact look_none Tryz.underlying49 Tryz.underlying3 hb (key_int n) (zero3 w) f false
  · exact look_found Tryz.underlying49 Tryz.underlying3 hb (key_int n) f false

theorem KM.look2 {es : Array MapEntry} {fs : List (Int × Int)} (h : KM es fs) {w : World} {b c : Nat} (hb : w.heap[b]? = some (.map es c)) (n : Int) : (Instr.lookup 49 (.map (some b)) (.int .i64 n) true).run Tryz.prog w = .ok (.tuple #[.int .i64 (fo fs n), .bool (!(fo fs n == 0))]) w := by
  rcases h n with ⟨e, f⟩ | ⟨e, i, f⟩
  · rw [e]
    exact look_none Tryz.underlying49 Tryz.underlying3 hb (key_int n) (zero3 w) f true
  · have := look_found (w := w) Tryz.underlying49 Tryz.underlying3 hb (key_int n) f true
    rw [show (fo fs n == 0) = false by simpa using e]
    exact this

set_option maxRecDepth 100000 in
set_option maxHeartbeats 1600000 in
theorem newTally_any (v : Value) (fs : List (Int × Int)) (w : World) (h : Fl w v fs) (hl : fs.length ≤ 1000000) : Calls Tryz.prog 75 #[v] w fun x w' => ∃ m es c, x = .returned (.agg #[.int .i64 0, .map (some m)]) ∧ w'.heap[m]? = some (.map es c) ∧ KM es fs ∧ w.heap.size ≤ m ∧ Below w.heap.size w w' := by
  have hmm := @run_makeMap Tryz.prog
  obtain ⟨ao, cap, rfl, hc, hcm⟩ := h.shape
  have HF := hid h
  clear h hcm
  go_enter Tryz.func75, Tryz.ntmps75
  go_wp2
  go_loopw [11] (fun i wr => ∃ k es c, k ≤ fs.length ∧ i = .int .i64 (k : Nat) ∧ wr.heap[w.heap.size + 1]? = some (.map es c) ∧ KM es (fs.take k) ∧ wr.heap[w.heap.size]? = some (.cells #[.int .i64 0, .map none] 51 (0, 0)) ∧ Below w.heap.size w wr) (fun i _ => fs.length - (intOf i).toNat)
  case atStart =>
    refine ⟨0, #[], 0, Nat.zero_le _, by go_num, ?_, KM.nil, hp_alloc (hp_new _ _) _, ((Below.refl _ _).alloc (Nat.le_refl _) _).alloc (by simp) _⟩
    have := hp_new (w.alloc (.cells #[.int .i64 0, .map none] 51)) (.map #[] 0)
    simpa using this
  case round =>
    obtain ⟨k, es, c, hk, rfl, hM, hKM, hR, hb⟩ := hrel
    have hMl := hp_lt hM
    by_cases hlt : k < fs.length
    · obtain ⟨b, off, cap', e, -, -, hcell⟩ := Rf.elem (f := fcs) (fun _ => rfl) (by omega) HF.out k hlt
      injection e with e1 e2 e3
      subst e1 e3
      clear e2
      obtain ⟨x, hxe⟩ : ∃ x, x = fs[k] := ⟨_, rfl⟩
      rw [← hxe] at hcell
      obtain ⟨at', kd⟩ := x
      have y0 : w.cell? ⟨b, off + k * 2, none⟩ = some (.int .i64 at') := hcell 0 _ rfl
      have y1 := hcell 1 _ rfl
      have x0 := (hb.cell (World.block_lt_of_cell? _ _ y0)).trans y0
      have x1 := (hb.cell (World.block_lt_of_cell? _ _ y1)).trans y1
      dsimp only at x1
      have ht : fs.take (k + 1) = fs.take k ++ [(at', kd)] := by rw [List.take_succ_eq_append_getElem hlt, hxe]
      have hl : ∀ m, (Instr.lookup 49 (.map (some (w.heap.size + 1))) (.int .i64 at') true).run Tryz.prog ((wr.alloc (.cells #[.int .i64 at', .int .i64 kd] 154)).drewN m) = .ok (.tuple #[.int .i64 (fo (fs.take k) at'), .bool (!(fo (fs.take k) at' == 0))]) ((wr.alloc (.cells #[.int .i64 at', .int .i64 kd] 154)).drewN m) := fun m => hKM.look2 (w := (wr.alloc (.cells #[.int .i64 at', .int .i64 kd] 154)).drewN m) (hp_alloc hM _) at'
      have hl0 : (Instr.lookup 49 (.map (some (w.heap.size + 1))) (.int .i64 at') true).run Tryz.prog (wr.alloc (.cells #[.int .i64 at', .int .i64 kd] 154)) = .ok (.tuple #[.int .i64 (fo (fs.take k) at'), .bool (!(fo (fs.take k) at' == 0))]) (wr.alloc (.cells #[.int .i64 at', .int .i64 kd] 154)) := hl 0
      have HI := hid (And.intro hM (And.intro hKM (And.intro hR hb)))
      have HT := hid ht
      have i2 : (k : Int) < (fs.length : Int) := by omega
      clear hcell y0 y1 hxe ht hM hKM hR hb
      obtain ⟨q, hq⟩ : ∃ q, q = fo (fs.take k) at' := ⟨_, rfl⟩
      rw [← hq] at hl0
      simp only [← hq] at hl
      have HQ := hid hq
      clear hq
      by_cases z1 : q = 0
      · subst z1
        by_cases z2 : 1 ≤ kd ∧ kd ≤ 3
        · obtain ⟨z3, z4⟩ := z2
          have hfn : Instr.findNow (.int .i64) (.int .i64 at') es.toList 0 = some none := by
            rcases HI.out.2.1 at' with ⟨_, f⟩ | ⟨e, _⟩
            · exact f
            · exact absurd HQ.out.symm e
          have HF2 := hid hfn
          clear hfn
          go_wp2_with (
            at_mapUpdate
            refine wpList_upd_new _ rfl _ _ _ 49 rfl 3 3 (.int .i64) Tryz.underlying49 Tryz.underlying3 (w.heap.size + 1) es c rfl (hp_alloc HI.out.1 _) (.int .i64 at') (.int .i64 kd) rfl rfl (key_int _) HF2.out ?_
            intro w2 hb2 hg2 hs2)
          go_roundw
          case rel =>
            obtain ⟨hM, hKM, hR, hb⟩ := HI.out
            have hRl := hp_lt hR
            refine ⟨k + 1, _, _, by omega, by go_num, hb2.out, ?_, ?_, ?_⟩
            · rw [HT.out]
              exact hKM.more (at', kd) HQ.out.symm z3 z4 c
            · exact (hg2.out.block w.heap.size (by simp; omega) (by simp)).trans (hp_alloc hR _)
            · exact (hb.alloc hb.size _).grown hg2.out (by have := hb.size; simp; omega) (fun k e => by cases e; omega)
          case measure => simp [intOf]; omega
        · have hrel : ∃ k' es' c', k' ≤ fs.length ∧ Value.int .i64 ((k : Int) + 1) = .int .i64 (k' : Nat) ∧ (wr.alloc (.cells #[.int .i64 at', .int .i64 kd] 154)).heap[w.heap.size + 1]? = some (.map es' c') ∧ KM es' (fs.take k') ∧ (wr.alloc (.cells #[.int .i64 at', .int .i64 kd] 154)).heap[w.heap.size]? = some (.cells #[.int .i64 0, .map none] 51 (0, 0)) ∧ Below w.heap.size w (wr.alloc (.cells #[.int .i64 at', .int .i64 kd] 154)) := by
            obtain ⟨hM, hKM, hR, hb⟩ := HI.out
            refine ⟨k + 1, es, c, by omega, by go_num, hp_alloc hM _, ?_, hp_alloc hR _, hb.alloc hb.size _⟩
            rw [HT.out]
            exact hKM.same (at', kd) (.inr z2)
          have HRel := hid hrel
          clear hrel
          by_cases z5 : 1 ≤ kd
          · have z6 : ¬ kd ≤ 3 := fun h => z2 ⟨z5, h⟩
            clear z2
            go_wp2
            go_roundw
            case rel => exact HRel.out
            case measure => simp [intOf]; omega
          · clear z2
            go_wp2
            go_roundw
            case rel => exact HRel.out
            case measure => simp [intOf]; omega
      · have hrel : ∃ k' es' c', k' ≤ fs.length ∧ Value.int .i64 ((k : Int) + 1) = .int .i64 (k' : Nat) ∧ (wr.alloc (.cells #[.int .i64 at', .int .i64 kd] 154)).heap[w.heap.size + 1]? = some (.map es' c') ∧ KM es' (fs.take k') ∧ (wr.alloc (.cells #[.int .i64 at', .int .i64 kd] 154)).heap[w.heap.size]? = some (.cells #[.int .i64 0, .map none] 51 (0, 0)) ∧ Below w.heap.size w (wr.alloc (.cells #[.int .i64 at', .int .i64 kd] 154)) := by
          obtain ⟨hM, hKM, hR, hb⟩ := HI.out
          refine ⟨k + 1, es, c, by omega, by go_num, hp_alloc hM _, ?_, hp_alloc hR _, hb.alloc hb.size _⟩
          rw [HT.out]
          exact hKM.same (at', kd) (.inl (by dsimp only; rw [← HQ.out]; exact z1))
        have HRel := hid hrel
        have z2 : (q == 0) = false := by simpa using z1
        rw [z2] at hl0
        clear hrel hl z1
        go_wp2
        go_roundw
        case rel => exact HRel.out
        case measure => simp [intOf]; omega
    · have hke := hid (show k = fs.length by omega)
      have i3 : ¬ (k : Int) < (fs.length : Int) := by omega
      have c0 : wr.cell? ⟨w.heap.size, 0, none⟩ = some (.int .i64 0) := by rw [cell_of_row wr _ 0 _ _ _ hR]; rfl
      have c1 : wr.cell? ⟨w.heap.size, 1, none⟩ = some (.map none) := by rw [cell_of_row wr _ 1 _ _ _ hR]; rfl
      have ff : ∀ i, wr.frozen? ⟨w.heap.size, i, none⟩ = false := fun i => free_of_block hR
      have HI := hid (And.intro hM (And.intro hKM (And.intro hR hb)))
      clear hM hKM hR hb
      go_wp2
      refine bodyPost_ret (v := .agg #[.int .i64 0, .map (some (w.heap.size + 1))]) (by simp [results, Tryz.results75, go_sem, c0, c1]; try omega) rfl ?_
      obtain ⟨hM, hKM, hR, hb⟩ := HI.out
      rw [hke.out, List.take_length] at hKM
      refine ⟨w.heap.size + 1, rfl, es, ⟨c, ?_⟩, hKM, by omega, (hb.setCell (p := ⟨w.heap.size, 0, none⟩) (Nat.le_refl _) _).setCell (p := ⟨w.heap.size, 1, none⟩) (Nat.le_refl _) _⟩
      exact hp_set (hp_set hM (by simp) _) (by simp) _

theorem fo_drop (l : List (Int × Int)) (k : Nat) (x : Int × Int) (n : Int) (hx : l[k]? = some x) : fo (l.drop k) n = if x.1 = n ∧ 1 ≤ x.2 ∧ x.2 ≤ 3 then x.2 else fo (l.drop (k + 1)) n := by
  have hk : k < l.length := by
    rcases Nat.lt_or_ge k l.length with h | h
    · exact h
    · rw [List.getElem?_eq_none h] at hx; cases hx
  have e : l[k] = x := by simpa [hk] using hx
  rw [List.drop_eq_getElem_cons hk, e]
  rfl

set_option maxRecDepth 100000 in
set_option maxHeartbeats 1600000 in
theorem fault_any (v : Value) (fs : List (Int × Int)) (n : Int) (w : World) (h : Fl w v fs) (hl : fs.length ≤ 1000000) : Calls Tryz.prog 110 #[v, .int .i64 n] w fun x w' => x = .returned (.int .i64 (fo fs n)) ∧ DN w w' := by
  obtain ⟨ao, cap, rfl, hc, hcm⟩ := h.shape
  have HF := hid h
  clear h hcm
  obtain ⟨r, hr⟩ : ∃ r, r = fo fs n := ⟨_, rfl⟩
  rw [← hr]
  have HR := hid hr
  clear hr
  go_enter Tryz.func110, Tryz.ntmps110
  go_wp2
  go_loopw [5] (fun i wr => ∃ k, k ≤ fs.length ∧ i = .int .i64 (k : Nat) ∧ DN w wr ∧ Hid (fo fs n = fo (fs.drop k) n)) (fun i _ => fs.length - (intOf i).toNat)
  case atStart => exact ⟨0, Nat.zero_le _, by go_num, DN.refl w, hid (by simp)⟩
  case round =>
    obtain ⟨k, hk, rfl, hdn, HP⟩ := hrel
    by_cases hlt : k < fs.length
    · obtain ⟨b, off, cap', e, -, -, hcell⟩ := Rf.elem (f := fcs) (fun _ => rfl) (by omega) HF.out k hlt
      injection e with e1 e2 e3
      subst e1 e3
      clear e2
      have hdrop := fo_drop fs k fs[k] n (by simp [hlt])
      obtain ⟨x, hxe⟩ : ∃ x, x = fs[k] := ⟨_, rfl⟩
      rw [← hxe] at hcell hdrop
      obtain ⟨at', kd⟩ := x
      have x0 := (hdn.cell _).trans (show w.cell? ⟨b, off + k * 2, none⟩ = some (.int .i64 at') from hcell 0 _ rfl)
      have x1 := (hdn.cell _).trans (hcell 1 _ rfl)
      dsimp only at x1
      have i2 : (k : Int) < (fs.length : Int) := by omega
      have HD := hid hdrop
      clear hcell hxe hdrop
      by_cases z1 : at' = n
      · subst z1
        by_cases z2 : 1 ≤ kd
        · by_cases z3 : kd ≤ 3
          · have hrk := hid (show r = kd by rw [HR.out, HP.out, HD.out, if_pos ⟨rfl, z2, z3⟩])
            go_wp2
            go_ret
            exact ⟨by rw [hrk.out]; rfl, hdn⟩
          · have HP' := hid (HP.out.trans (HD.out.trans (if_neg (fun h => z3 h.2.2))))
            go_wp2
            go_roundw
            case rel => exact ⟨k + 1, by omega, by go_num, hdn, HP'⟩
            case measure => simp [intOf]; omega
        · have HP' := hid (HP.out.trans (HD.out.trans (if_neg (fun h => z2 h.2.1))))
          go_wp2
          go_roundw
          case rel => exact ⟨k + 1, by omega, by go_num, hdn, HP'⟩
          case measure => simp [intOf]; omega
      · have HP' := hid (HP.out.trans (HD.out.trans (if_neg (fun h => z1 h.1))))
        have z2 : (at' == n) = false := by simpa using z1
        go_wp2
        go_roundw
        case rel => exact ⟨k + 1, by omega, by go_num, hdn, HP'⟩
        case measure => simp [intOf]; omega
    · have hrk := hid (show r = 0 by rw [HR.out, HP.out, List.drop_of_length_le (by omega)]; rfl)
      have i3 : ¬ (k : Int) < (fs.length : Int) := by omega
      go_wp2
      go_ret
      exact ⟨by rw [hrk.out]; rfl, hdn⟩

theorem Tryz.info154 : (Tryz.prog.info? 154).map (fun i => (i.zero, i.size, i.bytes)) = some (some (.agg #[.int .i64 0, .int .i64 0]), 2, 16) := by kernel_rfl

theorem fcs_one (fs : List (Int × Int)) : ∀ u ∈ fs.flatMap fcs, u.oneCell' = true := by
  intro u hu
  obtain ⟨y, _, hy⟩ := List.mem_flatMap.1 hu
  simp [fcs] at hy
  rcases hy with rfl | rfl <;> rfl

end Go.Proofs.YtlmompdfombgeaaGreat

namespace Go.Proofs.YtlmompdfombgeaaGreat
open Go.RowKit Go.MapKept

/-- A map that tells these faults. -/
def KF (w : World) (k : Value) (fs : List (Int × Int)) : Prop := (k = .map none ∧ fs = []) ∨ ∃ b es c, k = .map (some b) ∧ w.heap[b]? = some (.map es c) ∧ KM es fs

theorem KF.look {w : World} {k : Value} {fs : List (Int × Int)} (h : KF w k fs) (n : Int) : (Instr.lookup 49 k (.int .i64 n) false).run Tryz.prog w = .ok (.int .i64 (fo fs n)) w := by
  rcases h with ⟨rfl, rfl⟩ | ⟨b, es, c, rfl, hb, hk⟩
  · exact look_nil Tryz.underlying49 Tryz.underlying3 (key_int n) (zero3 w) false
  · exact hk.look hb n

theorem KF.kept {w w' : World} {k : Value} {fs : List (Int × Int)} {S : Nat → Prop} (h : KF w k fs) (hk : Kept S w w') (hS : ∀ b es c, w.heap[b]? = some (.map es c) → ¬ S b) : KF w' k fs := by
  rcases h with h | ⟨b, es, c, rfl, hb, hm⟩
  · exact .inl h
  · exact .inr ⟨b, es, c, rfl, hp_kept hb hk (hS b es c hb), hm⟩

/-- The error of a fault. -/
def fe (k : Int) : Int := if k = 1 then 11 else if k = 2 then 10 else if k = 3 then 8 else 0

/-- A zero disk: nothing but the power, the strokes and the planned faults. -/
def ZD (w : World) (d : Nat) (off : Bool) (cs : Int) (fs : List (Int × Int)) : Prop :=
  ∃ L k1 k2, DiskB w d 0 0 L 0 (.map none) (.map none) (.slice none 0 0) off cs k1 0 k2 ∧ NoKinds w L ∧ KF w k1 fs

theorem ZD.kept {w w' : World} {d : Nat} {off : Bool} {cs : Int} {fs : List (Int × Int)} {S : Nat → Prop} (h : ZD w d off cs fs) (hk : Kept S w w') (hd : ¬ S d) (hS : ∀ b es c, w.heap[b]? = some (.map es c) → ¬ S b) : ZD w' d off cs fs := by
  obtain ⟨L, k1, k2, h1, h2, h3⟩ := h
  exact ⟨L, k1, k2, hp_kept h1 hk hd, h2.kept hk (fun b c hb => hS b _ c hb), h3.kept hk hS⟩

theorem ZD.below {w w' : World} {d : Nat} {off : Bool} {cs : Int} {fs : List (Int × Int)} (h : ZD w d off cs fs) (hk : Below w.heap.size w w') : ZD w' d off cs fs := h.kept (Kept.ofBelow hk) (fun e => e) (fun _ _ _ _ e => e)

theorem ZD.lt {w : World} {d : Nat} {off : Bool} {cs : Int} {fs : List (Int × Int)} (h : ZD w d off cs fs) : d < w.heap.size := by
  obtain ⟨L, k1, k2, h1, h2, h3⟩ := h
  exact hp_lt h1

/-- The document's zero disk. -/
def ZR (w : World) (r : Nat) (off : Bool) (cs : Int) (fs : List (Int × Int)) : Prop :=
  ∃ sv rv, w.heap[r]? = some (.cells #[.int .i64 0, .int .i64 0, .int .i64 0, .slice none 0 0, .slice none 0 0, .slice none 0 0, sv, rv, .int .i64 cs, .int .i64 0, .bool off] 58 (0, 0)) ∧ Fl w sv fs ∧ (∀ k, sv.ownBlock = some k → r < k) ∧ ∃ a n c, rv = .slice a n c

theorem ZR.kept {w w' : World} {r : Nat} {off : Bool} {cs : Int} {fs : List (Int × Int)} {S : Nat → Prop} (h : ZR w r off cs fs) (hk : Kept S w w') (hd : ¬ S r) (hS : ∀ b, r < b → ¬ S b) : ZR w' r off cs fs := by
  obtain ⟨sv, rv, h1, h2, h3⟩ := h
  exact ⟨sv, rv, hp_kept h1 hk hd, Rf.kept h2 hk (fun b hb => hS b (h3.1 b hb)), h3⟩

theorem ZR.below {w w' : World} {r : Nat} {off : Bool} {cs : Int} {fs : List (Int × Int)} (h : ZR w r off cs fs) (hk : Below w.heap.size w w') : ZR w' r off cs fs := h.kept (Kept.ofBelow hk) (fun e => e) (fun _ _ e => e)

theorem Kept.drewN {S : Nat → Prop} {a w : World} (h : Kept S a w) (n : Nat) : Kept S a (w.drewN n) := ⟨h.os, h.tape, h.output, h.size, h.block⟩

theorem NoKinds.len {w : World} {L : Value} (h : NoKinds w L) (ty : TypeId) : (Builtin.len_ #[46] ty #[L]).run Tryz.prog w = .ok (.int .i64 0) w := by
  rcases h with rfl | ⟨b, c, rfl, hb⟩
  · simp [Builtin.len_, run_underlying Tryz.underlying46, goInt]
  · simpa using len_map (w := w) Tryz.underlying46 hb ty

set_option maxRecDepth 100000 in
set_option maxHeartbeats 1000000 in
theorem stroke_bad (d fn : Nat) (a b c fv : Value) (cap : Array Value) (r : Int) (w : World) (R1 R2 : World → Prop) (hr : (r == 0) = false) (_ha : a.cells = #[a]) (_hb : b.cells = #[b]) (_hc : c.cells = #[c])
    (hfind : Calls Tryz.prog 69 #[.pointer (some ⟨d, 0, none⟩), .agg #[a, b, c]] (w.alloc (.cells #[a, b, c] 104)) fun x w1 => x = .returned (.tuple #[fv, .int .i64 0]) ∧ R1 w1)
    (hcount : ∀ w1, R1 w1 → Calls Tryz.prog 70 #[.pointer (some ⟨d, 0, none⟩), .pointer (some ⟨d, 8, none⟩)] w1 fun x w2 => x = .returned (.int .i64 r) ∧ R2 w2) :
    Calls Tryz.prog 76 #[.pointer (some ⟨d, 0, none⟩), .agg #[a, b, c], .func (.func fn) #[] cap] w fun x w3 => x = .returned (.int .i64 r) ∧ R2 w3 := by
  have HF := hid hfind
  have HC := hid hcount
  clear hfind hcount
  go_enter Tryz.func76, Tryz.ntmps76
  go_wp2_with (first
    | (go_at_call 69; refine HF.out.mono ?_; rintro e w1 ⟨rfl, h1⟩; have H1 := hid h1; clear h1)
    | (go_at_call 70; refine (HC.out _ H1.out).mono ?_; rintro e w2 ⟨rfl, h2⟩; have H2 := hid h2; clear h2))
  go_ret
  exact ⟨rfl, H2.out⟩

set_option maxRecDepth 100000 in
set_option maxHeartbeats 1000000 in
/-- Power is off: every rule says so. -/
theorem find_off (d : Nat) (a b c : Value) (w : World) (c7 : w.cell? ⟨d, 7, none⟩ = some (.bool true)) (_ha : a.cells = #[a]) (_hb : b.cells = #[b]) (_hc : c.cells = #[c]) :
    Calls Tryz.prog 69 #[.pointer (some ⟨d, 0, none⟩), .agg #[a, b, c]] w fun x w' => x = .returned (.tuple #[.pointer none, .int .i64 11]) ∧ Below w.heap.size w w' := by
  have hnw := World.new_ne w ⟨d, 7, none⟩ c7
  have hdl := World.block_lt_of_cell? _ _ c7
  go_enter Tryz.func69, Tryz.ntmps69
  go_wp2
  go_ret2
  exact ⟨rfl, (Below.refl _ _).alloc (Nat.le_refl _) _⟩

end Go.Proofs.YtlmompdfombgeaaGreat

namespace Go.Proofs.YtlmompdfombgeaaGreat
open Go.RowKit Go.MapKept

/-- A sum over entries. -/
def sumE (f : MapEntry → Int) (l : List MapEntry) : Int := (l.map f).sum

theorem sumE_cons (f : MapEntry → Int) (e : MapEntry) (l : List MapEntry) : sumE f (e :: l) = f e + sumE f l := by simp [sumE]

theorem sumE_nonneg (f : MapEntry → Int) : ∀ l : List MapEntry, (∀ e ∈ l, 0 ≤ f e) → 0 ≤ sumE f l
  | [], _ => by simp [sumE]
  | e :: l, h => by
    rw [sumE_cons]
    have h1 := h e (by simp)
    have h2 := sumE_nonneg f l (fun x hx => h x (by simp [hx]))
    omega

theorem sumE_filter_none (f : MapEntry → Int) (b : Nat) : ∀ l : List MapEntry, (∀ e ∈ l, e.born ≠ b) → l.filter (fun x => !(x.born == b)) = l
  | [], _ => rfl
  | x :: l, h => by
    have hx := h x (by simp)
    rw [List.filter_cons, if_pos (by simpa using hx), sumE_filter_none f b l (fun e he => h e (by simp [he]))]

theorem sumE_without (f : MapEntry → Int) (e : MapEntry) : ∀ l : List MapEntry, (l.map MapEntry.born).Nodup → e ∈ l → sumE f (l.filter (fun x => !(x.born == e.born))) + f e = sumE f l
  | [], _, h => by simp at h
  | x :: l, hn, h => by
    rw [List.map_cons, List.nodup_cons] at hn
    rw [sumE_cons]
    rcases List.mem_cons.1 h with rfl | h
    · have hne : ∀ y ∈ l, y.born ≠ e.born := fun y hy hb => hn.1 (List.mem_map.2 ⟨y, hy, hb⟩)
      rw [List.filter_cons, if_neg (by simp), sumE_filter_none f e.born l hne]
      omega
    · have hxe : x.born ≠ e.born := fun hb => hn.1 (List.mem_map.2 ⟨e, h, hb.symm⟩)
      rw [List.filter_cons, if_pos (by simpa using hxe), sumE_cons]
      have := sumE_without f e l hn.2 h
      omega

theorem left_push (es : Array MapEntry) (seen : Array Nat) (b : Nat) : (leftOf es (seen.push b)).toList = (leftOf es seen).toList.filter (fun x => !(x.born == b)) := by
  simp only [leftOf, Array.toList_filter, List.filter_filter]
  congr 1
  funext x
  by_cases h : x.born = b <;> simp [h]

theorem left_zero (es : Array MapEntry) : (leftOf es #[]).toList = es.toList := by
  simp [leftOf]

/-- Whatever the tape says. -/
theorem choose_dn (n : Nat) (w : World) (h : 0 < n) : ∃ j m, j < n ∧ (choose (Question.mapNext n)).run Tryz.prog w = .ok j (w.drewN m) := by
  by_cases hf : n ≤ 1
  · exact ⟨0, 0, h, by simp [choose, Sem.run, Question.forced, hf]; rfl⟩
  · exact ⟨_, 1, Nat.mod_lt _ h, by
      simp only [choose, Sem.run, Question.forced, decide_eq_true_eq, hf, if_false, Question.cut]
      rfl⟩

/-- The next entry of a map that is as it was when the loop began. -/
theorem next_any (w : World) (ty : TypeId) (bm c : Nat) (seen : Array Nat) (es : Array MapEntry) (hb : w.heap[bm]? = some (.map es c)) (hold : ∀ x ∈ es.toList, x.born < c) :
    ((leftOf es seen).size = 0 ∧ (Instr.next (.pointer (some ⟨w.heap.size, 0, none⟩)) false ty).run Tryz.prog (w.alloc (.mapIter (some bm) c seen c)) = .ok (.tuple #[.bool false]) (w.alloc (.mapIter (some bm) c seen c))) ∨
    ∃ e ∈ (leftOf es seen).toList, ∃ m, (Instr.next (.pointer (some ⟨w.heap.size, 0, none⟩)) false ty).run Tryz.prog (w.alloc (.mapIter (some bm) c seen c)) = .ok (.tuple #[.bool true, e.key, e.val]) ((w.drewN m).alloc (.mapIter (some bm) c (seen.push e.born) c)) := by
  have hb' := hp_alloc hb (.mapIter (some bm) c seen c)
  have hm : ∀ x ∈ (leftOf es seen).toList, x.born < c := fun x hx => hold x (by simp [leftOf] at hx ⊢; exact hx.1)
  have e1 : (leftOf es seen).filter (fun x => decide (x.born < c)) = leftOf es seen := Array.filter_eq_self.2 (fun x hx => by simpa using hm x (by simpa using hx))
  have e2 : (leftOf es seen).filter (fun x => decide (x.born ≥ c)) = #[] := by
    rw [Array.filter_eq_empty_iff]
    intro x hx
    have := hm x (by simpa using hx)
    simp
    omega
  simp only [Instr.next, getObj, Sem.run_bind, Sem.run, hp_new, hb', Result.andThen, next_test_false seen es c c hold (Nat.le_refl _), Bool.false_eq_true, if_false]
  unfold leftOf at e1 e2 ⊢
  generalize Array.filter (fun e => !seen.contains e.born) es = L at e1 e2 ⊢
  simp only [e1, e2, Array.append_empty]
  by_cases h0 : L.size = 0
  · left
    obtain rfl : L = #[] := Array.eq_empty_of_size_eq_zero h0
    exact ⟨rfl, by simp [choose, Sem.run, Question.forced]⟩
  · right
    obtain ⟨j, m, hj, hrun⟩ := choose_dn L.size (w.alloc (.mapIter (some bm) c seen c)) (by omega)
    have hne : L.isEmpty = false := by simp [Array.isEmpty, h0]
    refine ⟨L[j], by simp, m, ?_⟩
    have hs := fun o' => set_last (w.drewN m) (some bm) c seen c o'
    simp only [hne, Bool.false_eq_true, if_false, Array.empty_append, Array.size_map, hrun, Array.getElem?_map, Array.getElem?_eq_getElem hj, Option.map_some, Sem.run_bind, Result.andThen]
    have hs' : (setObj w.heap.size (.mapIter (some bm) c (seen.push L[j].born) c)).run Tryz.prog ((w.alloc (.mapIter (some bm) c seen c)).drewN m) = .ok () ((w.drewN m).alloc (.mapIter (some bm) c (seen.push L[j].born) c)) := hs _
    simp only [hs']
    rfl

/-- What an iterator has seen. -/
def seenOf (w : World) (b : Nat) : Array Nat := match w.heap[b]? with | some (.mapIter _ _ s _) => s | _ => #[]

/-- The files of a map: each entry's value is a file whose peak is pk. -/
def Peaks (w : World) (es : Array MapEntry) (pk : MapEntry → Int) : Prop := ∀ e ∈ es.toList, ∃ p, e.val = .pointer (some ⟨p, 0, none⟩) ∧ w.cell? ⟨p, 4, none⟩ = some (.int .i64 (pk e)) ∧ 0 ≤ pk e

set_option maxRecDepth 100000 in
set_option maxHeartbeats 1600000 in
theorem held_any (L c : Nat) (es : Array MapEntry) (pk : MapEntry → Int) (w : World) (hL : w.heap[L]? = some (.map es c)) (hold : ∀ x ∈ es.toList, x.born < c) (hnd : (es.toList.map MapEntry.born).Nodup) (hp : Peaks w es pk) (hs : sumE pk es.toList ≤ 1000000000) (_hn : es.size ≤ 1000000) :
    Calls Tryz.prog 74 #[.map (some L)] w fun x w' => x = .returned (.tuple #[.int .i64 (sumE pk es.toList), .int .i64 es.size]) ∧ Below w.heap.size w w' := by
  have hr := run_range_map (P := Tryz.prog) w 46 3 100 L _ c Tryz.underlying46 hL
  have HL := hid (And.intro hL (And.intro hold (And.intro hnd hp)))
  clear hL hold hnd hp
  go_enter Tryz.func74, Tryz.ntmps74
  go_wp2
  go_loopw [2] (fun b wr => ∃ (seen : Array Nat) (m : Nat) (t : Int), wr = (w.drewN m).alloc (.mapIter (some L) c seen c) ∧ b = .int .i64 t ∧ 0 ≤ t ∧ t ≤ 1000000000 ∧ Hid (t + sumE pk (leftOf es seen).toList = sumE pk es.toList)) (fun _ wr => (leftOf es (seenOf wr w.heap.size)).size)
  case atStart => exact ⟨#[], 0, 0, rfl, by go_num, by omega, by omega, hid (by rw [left_zero]; omega)⟩
  case round =>
    obtain ⟨seen, m, t, rfl, rfl, ht0, ht1, HT⟩ := hrel
    obtain ⟨hL, hold, hnd, hp⟩ := HL.out
    rcases next_any (w.drewN m) 0 L c seen es hL hold with ⟨hz, hx⟩ | ⟨e, he, q, hx⟩
    · replace hx : (Instr.next (.pointer (some ⟨w.heap.size, 0, none⟩)) false 0).run Tryz.prog ((w.drewN m).alloc (.mapIter (some L) c seen c)) = .ok (.tuple #[.bool false]) ((w.drewN m).alloc (.mapIter (some L) c seen c)) := hx
      have hl0 : (leftOf es seen).toList = [] := by
        have : leftOf es seen = #[] := Array.eq_empty_of_size_eq_zero hz
        simp [this]
      have hte : t = sumE pk es.toList := by
        have := HT.out
        rw [hl0] at this
        simpa [sumE] using this
      have hlen := fun ty => len_map (w := (w.drewN m).alloc (.mapIter (some L) c seen c)) Tryz.underlying46 (hp_alloc hL _) ty
      have HTE := hid hte
      clear hL hold hnd hp hz hl0 hte
      go_wp2
      go_ret2
      exact ⟨by rw [HTE.out]; rfl, (below_drewN (Below.refl _ w) m).alloc (Nat.le_refl _) _⟩
    · replace hx : (Instr.next (.pointer (some ⟨w.heap.size, 0, none⟩)) false 0).run Tryz.prog ((w.drewN m).alloc (.mapIter (some L) c seen c)) = .ok (.tuple #[.bool true, e.key, e.val]) ((w.drewN (m + q)).alloc (.mapIter (some L) c (seen.push e.born) c)) := by
        rw [World.drewN_drewN] at hx
        exact hx
      have hes : e ∈ es.toList := by simp [leftOf] at he ⊢; exact he.1
      obtain ⟨p, hv, hpc, hp0⟩ := hp e hes
      have hen := run_entry_map (P := Tryz.prog) (w.drewN (m + q)) L c seen es c e hL hes hnd
      replace hen : (Instr.entry (.pointer (some ⟨w.heap.size, 0, none⟩))).run Tryz.prog ((w.drewN (m + q)).alloc (.mapIter (some L) c (seen.push e.born) c)) = .ok (.tuple #[e.key, e.val]) ((w.drewN (m + q)).alloc (.mapIter (some L) c (seen.push e.born) c)) := hen
      rw [hv] at hx hen
      have hpl := World.block_lt_of_cell? _ _ hpc
      have hpc2 : ((w.drewN (m + q)).alloc (.mapIter (some L) c (seen.push e.born) c)).cell? ⟨p, 4, none⟩ = some (.int .i64 (pk e)) := (World.cell?_alloc_past (w := w.drewN (m + q)) _ _ _ (show p < (w.drewN (m + q)).heap.size from hpl)).trans hpc
      have hnd2 : ((leftOf es seen).toList.map MapEntry.born).Nodup := by
        simp only [leftOf, Array.toList_filter]
        exact (List.Sublist.map _ (List.filter_sublist)).nodup hnd
      have hsum := sumE_without pk e _ hnd2 he
      rw [← left_push] at hsum
      have hnn : 0 ≤ sumE pk (leftOf es (seen.push e.born)).toList := sumE_nonneg pk _ (fun x hx => by
        have : x ∈ es.toList := by simp [leftOf] at hx ⊢; exact hx.1
        obtain ⟨_, _, _, h⟩ := hp x this
        exact h)
      have hT2 : (t + pk e) + sumE pk (leftOf es (seen.push e.born)).toList = sumE pk es.toList := by have := HT.out; omega
      have hlt : (leftOf es (seen.push e.born)).size < (leftOf es seen).size := by
        have e1 : (leftOf es (seen.push e.born)).size = (leftOf es (seen.push e.born)).toList.length := by simp
        have e2 : (leftOf es seen).size = (leftOf es seen).toList.length := by simp
        rw [e1, e2, left_push]
        exact List.length_filter_lt_length_iff_exists.2 ⟨e, he, by simp⟩
      have hub : t + pk e ≤ 1000000000 := by omega
      have HF := hid (And.intro hT2 hlt)
      obtain ⟨kk, hkk⟩ : ∃ kk, kk = pk e := ⟨_, rfl⟩
      rw [← hkk] at hpc2 hub hp0
      have HKK := hid hkk
      clear hL hold hnd hp hnd2 hsum hnn hT2 hlt hes he hpc hv hkk
      go_wp2
      go_roundw
      case rel => exact ⟨seen.push e.born, m + q, t + kk, rfl, by go_num, by omega, hub, hid (by rw [HKK.out]; exact HF.out.1)⟩
      case measure =>
        have e1 : seenOf ((w.drewN (m + q)).alloc (.mapIter (some L) c (seen.push e.born) c)) w.heap.size = seen.push e.born := by
          have := hp_new (w.drewN (m + q)) (.mapIter (some L) c (seen.push e.born) c)
          unfold seenOf
          rw [show w.heap.size = (w.drewN (m + q)).heap.size from rfl, this]
        have e2 : seenOf ((w.drewN m).alloc (.mapIter (some L) c seen c)) w.heap.size = seen := by
          have := hp_new (w.drewN m) (.mapIter (some L) c seen c)
          unfold seenOf
          rw [show w.heap.size = (w.drewN m).heap.size from rfl, this]
        rw [e1, e2]
        exact HF.out.2

end Go.Proofs.YtlmompdfombgeaaGreat

namespace Go.Proofs.YtlmompdfombgeaaGreat
open Go.RowKit Go.MapKept

/-- A kind of keys: how one is written, and that two are told apart. -/
structure Ky (κ : Type) [DecidableEq κ] where
  d : TypeDesc
  enc : κ → Value
  same : ∀ a b, Instr.sameNow d (enc a) (enc b) = some (decide (a = b))
  key : ∀ a, IsKey d (enc a)

/-- A map in block b: its keys and values in the order of the entries. -/
structure MG {κ : Type} [DecidableEq κ] (K : Ky κ) (w : World) (b : Nat) (kv : List (κ × Value)) (es : Array MapEntry) (c : Nat) : Prop where
  blk : w.heap[b]? = some (.map es c)
  hold : ∀ x ∈ es.toList, x.born < c
  nd : (es.toList.map MapEntry.born).Nodup
  kvs : es.toList.map (fun e => (e.key, e.val)) = kv.map (fun x => (K.enc x.1, x.2))
  keys : (kv.map Prod.fst).Nodup

section
variable {κ : Type} [DecidableEq κ] (K : Ky κ)

/-- What a look-up finds. -/
theorem find_kv (k : κ) : ∀ (es : List MapEntry) (kv : List (κ × Value)) (i : Nat), es.map (fun e => (e.key, e.val)) = kv.map (fun x => (K.enc x.1, x.2)) →
    (kv.lookup k = none ∧ Instr.findNow K.d (K.enc k) es i = some none) ∨ ∃ v j, kv.lookup k = some v ∧ kv[j]? = some (k, v) ∧ Instr.findNow K.d (K.enc k) es i = some (some (i + j, v))
  | [], [], i, _ => .inl ⟨rfl, rfl⟩
  | e :: es, [], i, h => by simp at h
  | [], x :: kv, i, h => by simp at h
  | e :: es, x :: kv, i, h => by
    simp only [List.map_cons, List.cons.injEq, Prod.mk.injEq] at h
    obtain ⟨⟨hk, hv⟩, ht⟩ := h
    by_cases hx : k = x.1
    · right
      refine ⟨x.2, 0, by rw [List.lookup_cons, hx]; simp, by simp [hx], ?_⟩
      unfold Instr.findNow
      rw [hk, K.same, hx]
      simp [hv]
    · rcases find_kv k es kv (i + 1) ht with ⟨h1, h2⟩ | ⟨v, j, h1, h2, h3⟩
      · left
        refine ⟨by rw [List.lookup_cons, show (k == x.1) = false by simpa using hx]; exact h1, ?_⟩
        unfold Instr.findNow
        rw [hk, K.same]
        simp [hx, h2]
      · right
        refine ⟨v, j + 1, by rw [List.lookup_cons, show (k == x.1) = false by simpa using hx]; exact h1, by simpa using h2, ?_⟩
        unfold Instr.findNow
        rw [hk, K.same]
        simp [hx, h3]
        omega

variable {K} {w w' : World} {b c : Nat} {kv : List (κ × Value)} {es : Array MapEntry}

theorem MG.kept {S : Nat → Prop} (h : MG K w b kv es c) (hk : Kept S w w') (hn : ¬ S b) : MG K w' b kv es c := ⟨hp_kept h.blk hk hn, h.hold, h.nd, h.kvs, h.keys⟩
theorem MG.below (h : MG K w b kv es c) (hk : Below w.heap.size w w') : MG K w' b kv es c := h.kept (Kept.ofBelow hk) (fun e => e)

theorem MG.size (h : MG K w b kv es c) : es.size = kv.length := by
  have := congrArg List.length h.kvs
  simpa using this

theorem MG.look (h : MG K w b kv es c) {t kt e : TypeId} (ht : Tryz.prog.underlying t = some (.map kt e)) (hk : Tryz.prog.underlying kt = some K.d) {z : Value} (hz : (zeroValue e).run Tryz.prog w = .ok z w) (k : κ) (ok : Bool) :
    (Instr.lookup t (.map (some b)) (K.enc k) ok).run Tryz.prog w = .ok (if ok then .tuple #[(kv.lookup k).getD z, .bool (kv.lookup k).isSome] else (kv.lookup k).getD z) w := by
  rcases find_kv K k es.toList kv 0 h.kvs with ⟨h1, h2⟩ | ⟨v, j, h1, _, h3⟩
  · rw [h1]
    exact look_none ht hk h.blk (K.key k) hz h2 ok
  · rw [h1]
    exact look_found ht hk h.blk (K.key k) h3 ok

theorem MG.len (h : MG K w b kv es c) {t kt e : TypeId} (ht : Tryz.prog.underlying t = some (.map kt e)) (ty : TypeId) : (Builtin.len_ #[t] ty #[.map (some b)]).run Tryz.prog w = .ok (.int .i64 kv.length) w := by
  rw [← h.size]
  exact len_map ht h.blk ty

theorem MG.noKey (h : MG K w b kv es c) (k : κ) (hn : kv.lookup k = none) : Instr.findNow K.d (K.enc k) es.toList 0 = some none := by
  rcases find_kv K k es.toList kv 0 h.kvs with ⟨_, h2⟩ | ⟨v, j, h1, _, _⟩
  · exact h2
  · rw [hn] at h1; cases h1

theorem lookup_none_mem {k : κ} : ∀ {kv : List (κ × Value)}, kv.lookup k = Option.none → k ∉ kv.map Prod.fst
  | [], _ => by simp
  | x :: kv, h => by
    rw [List.lookup_cons] at h
    by_cases hx : k = x.1
    · simp [hx] at h
    · rw [show (k == x.1) = false by simpa using hx] at h
      have := lookup_none_mem (kv := kv) h
      simp [hx] at this ⊢
      exact this

/-- A new key. -/
theorem MG.push (h : MG K w b kv es c) (k : κ) (v : Value) (hn : kv.lookup k = none) (hb : w'.heap[b]? = some (.map (es.push { key := K.enc k, val := v, born := c }) (c + 1))) : MG K w' b (kv ++ [(k, v)]) (es.push { key := K.enc k, val := v, born := c }) (c + 1) := by
  refine ⟨hb, ?_, ?_, ?_, ?_⟩
  · intro x hx
    simp at hx
    rcases hx with hx | rfl
    · have := h.hold x (by simpa using hx); omega
    · exact Nat.lt_succ_self _
  · rw [Array.toList_push, List.map_append, List.nodup_append]
    refine ⟨h.nd, by simp, ?_⟩
    intro a ha a' ha' e
    simp at ha'
    subst ha'
    obtain ⟨x, hx, hxa⟩ := List.mem_map.1 ha
    have := h.hold x hx
    omega
  · rw [Array.toList_push, List.map_append, h.kvs]
    simp
  · rw [List.map_append, List.nodup_append]
    refine ⟨h.keys, by simp, ?_⟩
    intro a ha a' ha' e
    simp at ha'
    subst ha' e
    exact lookup_none_mem hn ha

end

theorem same_dec {κ : Type} [DecidableEq κ] (d : TypeDesc) (enc : κ → Value) (hk : ∀ a, IsKey d (enc a)) (hi : ∀ a b, enc a = enc b → a = b) (a b : κ) : Instr.sameNow d (enc a) (enc b) = some (decide (a = b)) := by
  obtain ⟨r, h1, h2⟩ := sameNow_of_keys (hk a) (hk b)
  rw [h1]
  congr 1
  by_cases e : a = b
  · subst e
    simpa using h2.2 rfl
  · have : r ≠ true := fun h => e (hi a b (h2.1 h))
    simp [e]
    simpa using this

/-- Keys that are numbers. -/
def KI : Ky Int := ⟨.int .i64, .int .i64, same_dec _ _ key_int (fun a b h => by injection h), key_int⟩

/-- Keys that are texts. -/
def KS : Ky ByteArray := ⟨.string, .string, same_dec _ _ key_str (fun a b h => by injection h), key_str⟩

end Go.Proofs.YtlmompdfombgeaaGreat
