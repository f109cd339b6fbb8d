import Derived.Test.YtlmompdfombgeabGreatK03
import Derived.Test.YtlmompdfombgeabGreatK04
import Derived.Test.YtlmompdfombgeabGreatK05
namespace Go.Proofs.YtlmompdfombgeabGreat
open Go.RowKit Go.MapKept

/-- A map of faults that plans nothing. -/
def NoKinds (w : World) (k : Value) : Prop := k = .map none ∨ ∃ b c, k = .map (some b) ∧ w.heap[b]? = some (.map #[] c)

theorem NoKinds.look {w : World} {k : Value} (h : NoKinds w k) (n : Int) : (Instr.lookup 85 k (.int .i64 n) false).run Tryz.prog w = .ok (.int .i64 0) w := by
  have hz : (zeroValue 3).run Tryz.prog w = .ok (.int .i64 0) w := by kernel_rfl
  rcases h with rfl | ⟨b, c, rfl, hb⟩
  · exact look_nil Tryz.underlying85 Tryz.underlying3 (key_int n) hz false
  · exact look_none Tryz.underlying85 Tryz.underlying3 hb (key_int n) hz rfl false

theorem NoKinds.kept {w w' : World} {k : Value} {S : Nat → Prop} (h : NoKinds w k) (hk : Kept S w w') (hS : ∀ b c, w.heap[b]? = some (.map #[] c) → ¬ S b) : NoKinds w' k := by
  rcases h with rfl | ⟨b, c, rfl, hb⟩
  · exact .inl rfl
  · exact .inr ⟨b, c, rfl, hp_kept hb hk (hS b c hb)⟩

set_option maxRecDepth 100000 in
set_option maxHeartbeats 1000000 in
/-- A stroke, or a reading, that is counted, and no fault. -/
theorem count_any (d o : Nat) (n : Int) (k : Value) (w : World) (cs : Array Value) (t : TypeId) (hd : w.heap[d]? = some (.cells cs t (0, 0))) (c0 : w.cell? ⟨d, o, none⟩ = some (.int .i64 n)) (c1 : w.cell? ⟨d, o + 1, none⟩ = some k) (hn0 : 0 ≤ n) (hn : n ≤ 1000000000) (hk : NoKinds w k) :
    Calls Tryz.prog 63 #[.pointer (some ⟨d, 0, none⟩), .pointer (some ⟨d, o, none⟩)] w fun x w' => ∃ nq, x = .returned (.int .i64 0) ∧ w' = (w.setCell ⟨d, o, none⟩ (.int .i64 (n + 1))).drewN nq := by
  have ff : ∀ i, w.frozen? ⟨d, i, none⟩ = false := fun i => free_of_block hd
  have hk2 : NoKinds (w.setCell ⟨d, o, none⟩ (.int .i64 (n + 1))) k := hk.kept (S := fun k => k = d) ((Kept.refl (fun k => k = d) w).setCell (p := ⟨d, o, none⟩) (fun _ => rfl) _) (fun b c hb e => by subst e; rw [hd] at hb; cases hb)
  have hl : ∀ m, (Instr.lookup 85 k (.int .i64 (n + 1)) false).run Tryz.prog ((w.setCell ⟨d, o, none⟩ (.int .i64 (n + 1))).drewN m) = .ok (.int .i64 0) ((w.setCell ⟨d, o, none⟩ (.int .i64 (n + 1))).drewN m) := fun m => NoKinds.look (w := (w.setCell ⟨d, o, none⟩ (.int .i64 (n + 1))).drewN m) hk2 _
  clear hk hk2 hd
  go_enter Tryz.func63, Tryz.ntmps63
  go_wp2
  go_quiet (fail)
  go_wp2
  go_ret
  exact ⟨nq, rfl, rfl⟩

/-- Is it a name? -/
def nmOK (s : ByteArray) : Bool := decide (1 ≤ s.size) && decide (s.size ≤ 40) && s.data.toList.all (fun c => decide (33 ≤ c.toNat) && decide (c.toNat ≤ 126))

theorem take_snocB (s : ByteArray) (k : Nat) (h : k < s.size) : s.data.toList.take (k + 1) = s.data.toList.take k ++ [s[k]] := by
  rw [List.take_succ_eq_append_getElem (by simpa using h)]; rfl

set_option maxRecDepth 100000 in
set_option maxHeartbeats 1000000 in
theorem isName_any (s : ByteArray) (w : World) (hs : s.size ≤ maxLen) : Calls Tryz.prog 67 #[.string s] w fun x w' => x = .returned (.bool (nmOK s)) ∧ w' = w := by
  unfold maxLen at hs
  obtain ⟨r, hr⟩ : ∃ r, r = nmOK s := ⟨_, rfl⟩
  rw [← hr]
  have HR := hid hr
  clear hr
  by_cases h1 : (s.size : Int) < 1
  · have Hr := hid (show nmOK s = false by have : ¬ 1 ≤ s.size := by omega
                                           simp [nmOK, this])
    go_enter Tryz.func67, Tryz.ntmps67
    go_wp2
    go_ret
    exact ⟨by rw [HR.out, Hr.out]; rfl, rfl⟩
  · by_cases h2 : 40 < (s.size : Int)
    · have Hr := hid (show nmOK s = false by have : ¬ s.size ≤ 40 := by omega
                                             simp [nmOK, this])
      go_enter Tryz.func67, Tryz.ntmps67
      go_wp2
      go_ret
      exact ⟨by rw [HR.out, Hr.out]; rfl, rfl⟩
    · go_enter Tryz.func67, Tryz.ntmps67
      go_wp2
      go_loop [3, 14] (fun _ i => ∃ k : Nat, k ≤ s.size ∧ i = .int .i64 k ∧ Hid ((s.data.toList.take k).all (fun c => decide (33 ≤ c.toNat) && decide (c.toNat ≤ 126)) = true)) (fun _ i => s.size - (intOf i).toNat)
      case atStart => exact ⟨0, Nat.zero_le _, rfl, hid (by simp)⟩
      case round =>
        obtain ⟨k, hk, rfl, hall⟩ := hrel
        by_cases hlt : k < s.size
        · by_cases hgo : 33 ≤ s[k].toNat ∧ s[k].toNat ≤ 126
          · obtain ⟨g1, g2⟩ := hgo
            have HN := hid (show (s.data.toList.take (k + 1)).all (fun c => decide (33 ≤ c.toNat) && decide (c.toNat ≤ 126)) = true by rw [take_snocB s k hlt, List.all_append, hall.out]; simp [g1, g2])
            have j1 : ¬ ((s[k].toNat : Int) < 33) := by omega
            have j2 : ¬ (126 < (s[k].toNat : Int)) := by omega
            go_wp2
            go_round
            case rel => exact ⟨k + 1, by omega, by go_num, HN⟩
            case measure => simp [intOf]; omega
          · have Hr := hid (show nmOK s = false by
              have hm : s[k] ∈ s.data.toList := by
                have : s[k] ∈ s.data.toList.take (k + 1) := by rw [take_snocB s k hlt]; simp
                exact List.mem_of_mem_take this
              have hf : s.data.toList.all (fun c => decide (33 ≤ c.toNat) && decide (c.toNat ≤ 126)) = false := by
                rw [Bool.eq_false_iff]
                intro h
                have := List.all_eq_true.1 h _ hm
                simp at this
                exact hgo this
              simp [nmOK, hf])
            by_cases j1 : (s[k].toNat : Int) < 33
            · go_wp2
              go_ret
              exact ⟨by rw [HR.out, Hr.out]; rfl, rfl⟩
            · have j2 : 126 < (s[k].toNat : Int) := by omega
              go_wp2
              go_ret
              exact ⟨by rw [HR.out, Hr.out]; rfl, rfl⟩
        · have Hr := hid (show nmOK s = true by
            have := hall.out
            rw [List.take_of_length_le (by simp; omega)] at this
            have a1 : 1 ≤ s.size := by omega
            have a2 : s.size ≤ 40 := by omega
            simp only [nmOK, this, a1, a2, decide_true, Bool.and_true])
          go_wp2
          go_ret
          exact ⟨by rw [HR.out, Hr.out]; rfl, rfl⟩

end Go.Proofs.YtlmompdfombgeabGreat

namespace Go.Proofs.YtlmompdfombgeabGreat
open Go.RowKit Go.MapKept

theorem below_drewN {B : Nat} {w w' : World} (h : Below B w w') (n : Nat) : Below B w (w'.drewN n) := ⟨h.os, h.tape, h.output, h.size, h.block⟩

theorem zero3 (w : World) : (zeroValue 3).run Tryz.prog w = .ok (.int .i64 0) w := by kernel_rfl

set_option maxRecDepth 100000 in
set_option maxHeartbeats 1000000 in
theorem find_plain (d : Nat) (w : World) (c7 : w.cell? ⟨d, 7, none⟩ = some (.bool false)) :
    Calls Tryz.prog 61 #[.pointer (some ⟨d, 0, none⟩), .agg #[.slice none 0 0, .bool false, .int .i64 0]] w fun x w' => x = .returned (.tuple #[.pointer none, .int .i64 0]) ∧ Below w.heap.size w w' := by
  have hnw := World.new_ne w ⟨d, 7, none⟩ c7
  have hdl := World.block_lt_of_cell? _ _ c7
  go_enter Tryz.func61, Tryz.ntmps61
  go_wp2
  refine wp_loop_rounds 1 ?_
  rw [rounds_succ]
  go_wp2
  go_ret2
  exact ⟨rfl, (Below.refl _ _).alloc (Nat.le_refl _) _⟩

set_option maxRecDepth 100000 in
set_option maxHeartbeats 1000000 in
theorem find_absent (d g Nb : Nat) (nm : ByteArray) (es : Array MapEntry) (c : Nat) (w : World) (c7 : w.cell? ⟨d, 7, none⟩ = some (.bool false)) (c4 : w.cell? ⟨d, 4, none⟩ = some (.map (some Nb))) (hN : w.heap[Nb]? = some (.map es c)) (hg : w.cell? ⟨g, 0, none⟩ = some (.string nm)) (hok : nmOK nm = true) (hs : nm.size ≤ maxLen)
    (hf : Instr.findNow .string (.string nm) es.toList 0 = some none) :
    Calls Tryz.prog 61 #[.pointer (some ⟨d, 0, none⟩), .agg #[.slice (some ⟨g, 0, none⟩) 1 1, .bool true, .int .i64 0]] w fun x w' => x = .returned (.tuple #[.pointer none, .int .i64 0]) ∧ Below w.heap.size w w' := by
  have hdl := World.block_lt_of_cell? _ _ c7
  have hgl := World.block_lt_of_cell? _ _ hg
  have hl : ∀ m, (Instr.lookup 83 (.map (some Nb)) (.string nm) true).run Tryz.prog ((w.alloc (.cells #[.slice (some ⟨g, 0, none⟩) 1 1, .bool true, .int .i64 0] 109)).drewN m) = .ok (.tuple #[.int .i64 0, .bool false]) ((w.alloc (.cells #[.slice (some ⟨g, 0, none⟩) 1 1, .bool true, .int .i64 0] 109)).drewN m) := fun m =>
    look_none (w := (w.alloc (.cells #[.slice (some ⟨g, 0, none⟩) 1 1, .bool true, .int .i64 0] 109)).drewN m) Tryz.underlying83 Tryz.underlying9 (hp_alloc hN _) (key_str nm) (zero3 _) hf true
  clear hN hf
  go_enter Tryz.func61, Tryz.ntmps61
  go_wp2
  refine wp_loop_rounds 2 ?_
  rw [rounds_succ]
  go_wp2_with (go_at_call 67; refine (isName_any nm _ hs).mono ?_; rw [hok]; rintro e w' ⟨rfl, rfl⟩)
  rw [rounds_succ]
  go_wp2
  go_quiet (fail)
  go_wp2
  go_ret2
  exact ⟨rfl, below_drewN ((Below.refl _ _).alloc (Nat.le_refl _) _) _⟩

set_option maxRecDepth 100000 in
set_option maxHeartbeats 1000000 in
theorem find_exists (d g Nb : Nat) (nm : ByteArray) (es : Array MapEntry) (c i : Nat) (n : Int) (w : World) (c7 : w.cell? ⟨d, 7, none⟩ = some (.bool false)) (c4 : w.cell? ⟨d, 4, none⟩ = some (.map (some Nb))) (hN : w.heap[Nb]? = some (.map es c)) (hg : w.cell? ⟨g, 0, none⟩ = some (.string nm)) (hok : nmOK nm = true) (hs : nm.size ≤ maxLen)
    (hf : Instr.findNow .string (.string nm) es.toList 0 = some (some (i, .int .i64 n))) :
    Calls Tryz.prog 61 #[.pointer (some ⟨d, 0, none⟩), .agg #[.slice (some ⟨g, 0, none⟩) 1 1, .bool true, .int .i64 0]] w fun x w' => x = .returned (.tuple #[.pointer none, .int .i64 7]) ∧ Below w.heap.size w w' := by
  have hdl := World.block_lt_of_cell? _ _ c7
  have hgl := World.block_lt_of_cell? _ _ hg
  have hl : ∀ m, (Instr.lookup 83 (.map (some Nb)) (.string nm) true).run Tryz.prog ((w.alloc (.cells #[.slice (some ⟨g, 0, none⟩) 1 1, .bool true, .int .i64 0] 109)).drewN m) = .ok (.tuple #[.int .i64 n, .bool true]) ((w.alloc (.cells #[.slice (some ⟨g, 0, none⟩) 1 1, .bool true, .int .i64 0] 109)).drewN m) := fun m =>
    look_found (w := (w.alloc (.cells #[.slice (some ⟨g, 0, none⟩) 1 1, .bool true, .int .i64 0] 109)).drewN m) Tryz.underlying83 Tryz.underlying9 (hp_alloc hN _) (key_str nm) hf true
  clear hN hf
  go_enter Tryz.func61, Tryz.ntmps61
  go_wp2
  refine wp_loop_rounds 2 ?_
  rw [rounds_succ]
  go_wp2_with (go_at_call 67; refine (isName_any nm _ hs).mono ?_; rw [hok]; rintro e w' ⟨rfl, rfl⟩)
  rw [rounds_succ]
  go_wp2
  go_quiet (fail)
  go_wp2
  go_ret2
  exact ⟨rfl, below_drewN ((Below.refl _ _).alloc (Nat.le_refl _) _) _⟩

set_option maxRecDepth 100000 in
set_option maxHeartbeats 1000000 in
theorem find_there (d g Nb L p : Nat) (nm : ByteArray) (es fs : Array MapEntry) (c c' i i' : Nat) (n sz : Int) (ao : Option Addr) (len cap : Nat) (w : World) (c7 : w.cell? ⟨d, 7, none⟩ = some (.bool false)) (c4 : w.cell? ⟨d, 4, none⟩ = some (.map (some Nb))) (c2 : w.cell? ⟨d, 2, none⟩ = some (.map (some L))) (hN : w.heap[Nb]? = some (.map es c)) (hL : w.heap[L]? = some (.map fs c')) (hg : w.cell? ⟨g, 0, none⟩ = some (.string nm)) (hok : nmOK nm = true) (hs : nm.size ≤ maxLen)
    (hf : Instr.findNow .string (.string nm) es.toList 0 = some (some (i, .int .i64 n))) (hf2 : Instr.findNow (.int .i64) (.int .i64 n) fs.toList 0 = some (some (i', .pointer (some ⟨p, 0, none⟩)))) (hp : w.cell? ⟨p, 2, none⟩ = some (.slice ao len cap)) (h0 : 0 ≤ sz) (h1 : sz ≤ len) :
    Calls Tryz.prog 61 #[.pointer (some ⟨d, 0, none⟩), .agg #[.slice (some ⟨g, 0, none⟩) 1 1, .bool false, .int .i64 sz]] w fun x w' => x = .returned (.tuple #[.pointer (some ⟨p, 0, none⟩), .int .i64 0]) ∧ Below w.heap.size w w' := by
  have hdl := World.block_lt_of_cell? _ _ c7
  have hgl := World.block_lt_of_cell? _ _ hg
  have hpl := World.block_lt_of_cell? _ _ hp
  have hl : ∀ m, (Instr.lookup 83 (.map (some Nb)) (.string nm) true).run Tryz.prog ((w.alloc (.cells #[.slice (some ⟨g, 0, none⟩) 1 1, .bool false, .int .i64 sz] 109)).drewN m) = .ok (.tuple #[.int .i64 n, .bool true]) ((w.alloc (.cells #[.slice (some ⟨g, 0, none⟩) 1 1, .bool false, .int .i64 sz] 109)).drewN m) := fun m =>
    look_found (w := (w.alloc (.cells #[.slice (some ⟨g, 0, none⟩) 1 1, .bool false, .int .i64 sz] 109)).drewN m) Tryz.underlying83 Tryz.underlying9 (hp_alloc hN _) (key_str nm) hf true
  have hl2 : ∀ m, (Instr.lookup 82 (.map (some L)) (.int .i64 n) false).run Tryz.prog ((w.alloc (.cells #[.slice (some ⟨g, 0, none⟩) 1 1, .bool false, .int .i64 sz] 109)).drewN m) = .ok (.pointer (some ⟨p, 0, none⟩)) ((w.alloc (.cells #[.slice (some ⟨g, 0, none⟩) 1 1, .bool false, .int .i64 sz] 109)).drewN m) := fun m =>
    look_found (w := (w.alloc (.cells #[.slice (some ⟨g, 0, none⟩) 1 1, .bool false, .int .i64 sz] 109)).drewN m) Tryz.underlying82 Tryz.underlying3 (hp_alloc hL _) (key_int n) hf2 false
  have j1 : decide (sz < 0) = false := by simp; omega
  have j2 : decide ((len : Int) < sz) = false := by simp; omega
  clear hN hf hL hf2
  go_enter Tryz.func61, Tryz.ntmps61
  go_wp2
  refine wp_loop_rounds 2 ?_
  rw [rounds_succ]
  go_wp2_with (go_at_call 67; refine (isName_any nm _ hs).mono ?_; rw [hok]; rintro e w' ⟨rfl, rfl⟩)
  rw [rounds_succ]
  go_wp2
  go_quiet (fail)
  go_wp2
  go_quiet (fail)
  go_wp2
  go_ret2
  exact ⟨rfl, below_drewN ((Below.refl _ _).alloc (Nat.le_refl _) _) _⟩

end Go.Proofs.YtlmompdfombgeabGreat

namespace Go.Proofs.YtlmompdfombgeabGreat
open Go.RowKit Go.MapKept

set_option maxRecDepth 100000 in
set_option maxHeartbeats 1000000 in
theorem stroke_ok (d fn : Nat) (a b c fv : Value) (cap : Array Value) (r : Int) (w : World) (R1 R2 R3 : World → Prop) (he : ∀ args w, (callFunc fn args).run Tryz.prog w = .ok (.enter fn args) w) (_ha : a.cells = #[a]) (_hb : b.cells = #[b]) (_hc : c.cells = #[c])
    (hfind : Calls Tryz.prog 61 #[.pointer (some ⟨d, 0, none⟩), .agg #[a, b, c]] (w.alloc (.cells #[a, b, c] 109)) fun x w1 => x = .returned (.tuple #[fv, .int .i64 0]) ∧ R1 w1)
    (hcount : ∀ w1, R1 w1 → Calls Tryz.prog 63 #[.pointer (some ⟨d, 0, none⟩), .pointer (some ⟨d, 8, none⟩)] w1 fun x w2 => x = .returned (.int .i64 0) ∧ R2 w2)
    (hdo : ∀ w2, R2 w2 → Calls Tryz.prog fn (#[fv] ++ cap) w2 fun x w3 => x = .returned (.int .i64 r) ∧ R3 w3) :
    Calls Tryz.prog 49 #[.pointer (some ⟨d, 0, none⟩), .agg #[a, b, c], .func (.func fn) #[] cap] w fun x w3 => x = .returned (.int .i64 r) ∧ R3 w3 := by
  have HF := hid hfind
  have HC := hid hcount
  have HDo := hid hdo
  clear hfind hcount hdo
  go_enter Tryz.func49, Tryz.ntmps49
  go_wp2_with (first
    | (go_at_call 61; refine HF.out.mono ?_; rintro e w1 ⟨rfl, h1⟩; have H1 := hid h1; clear h1)
    | (go_at_call 63; refine (HC.out _ H1.out).mono ?_; rintro e w2 ⟨rfl, h2⟩; have H2 := hid h2; clear h2)
    | (refine (HDo.out _ H2.out).mono ?_; rintro e w3 ⟨rfl, h3⟩; have H3 := hid h3; clear h3))
  go_ret
  exact ⟨rfl, H3.out⟩

set_option maxRecDepth 100000 in
set_option maxHeartbeats 1000000 in
theorem stroke_no (d fn : Nat) (a b c fv : Value) (cap : Array Value) (r : Int) (w : World) (R1 : World → Prop) (hr : (r == 0) = false) (_ha : a.cells = #[a]) (_hb : b.cells = #[b]) (_hc : c.cells = #[c])
    (hfind : Calls Tryz.prog 61 #[.pointer (some ⟨d, 0, none⟩), .agg #[a, b, c]] (w.alloc (.cells #[a, b, c] 109)) fun x w1 => x = .returned (.tuple #[fv, .int .i64 r]) ∧ R1 w1) :
    Calls Tryz.prog 49 #[.pointer (some ⟨d, 0, none⟩), .agg #[a, b, c], .func (.func fn) #[] cap] w fun x w3 => x = .returned (.int .i64 r) ∧ R1 w3 := by
  have HF := hid hfind
  clear hfind
  go_enter Tryz.func49, Tryz.ntmps49
  go_wp2_with (first
    | (go_at_call 61; refine HF.out.mono ?_; rintro e w1 ⟨rfl, h1⟩; have H1 := hid h1; clear h1))
  go_ret
  exact ⟨rfl, H1.out⟩

end Go.Proofs.YtlmompdfombgeabGreat

namespace Go.Proofs.YtlmompdfombgeabGreat
open Go.RowKit Go.MapKept

theorem cell_cells {w : World} {k o : Nat} {v : Value} (h : w.cell? ⟨k, o, none⟩ = some v) : ∃ cs t fr, w.heap[k]? = some (.cells cs t fr) := by
  unfold World.cell? at h
  dsimp only at h
  split at h
  · rename_i cs t fr hh
    exact ⟨cs, t, fr, hh⟩
  · cases h

theorem cell_ne_map {w : World} {k b o : Nat} {v : Value} {es : Array MapEntry} {c : Nat} (h : w.cell? ⟨k, o, none⟩ = some v) (hb : w.heap[b]? = some (.map es c)) : k ≠ b := by
  obtain ⟨cs, t, fr, hh⟩ := cell_cells h
  exact hp_ne hh hb (by simp)

theorem sl_none (w : World) : Sl w (.slice none 0 0) [] := ⟨none, 0, rfl, Nat.le_refl _, fun h => absurd rfl h⟩

set_option maxRecDepth 100000 in
set_option maxHeartbeats 1000000 in
theorem create1_any (B d xd xn : Nat) (f : Value) (nm : ByteArray) (w : World) (room limit : Int) (L : Nat) (made : Int) (Nb : Nat) (F vn : Value) (off : Bool) (st : Int) (k1 : Value) (rd : Int) (k2 : Value) (fs es : Array MapEntry) (c cN n : Nat) (xs : List Value)
    (hD : DiskB w d room limit (.map (some L)) made (.map (some Nb)) F vn off st k1 rd k2) (hL : w.heap[L]? = some (.map fs c)) (hN : w.heap[Nb]? = some (.map es cN)) (hLN : L ≠ Nb) (hB : B ≤ w.heap.size) (hv : w.ownsRow B 104 3 vn n xs) (hn : n ≤ 1000000)
    (hxd : w.cell? ⟨xd, 0, none⟩ = some (.pointer (some ⟨d, 0, none⟩))) (hxn : w.cell? ⟨xn, 0, none⟩ = some (.string nm))
    (hd1 : xd ≠ d) (hd2 : xn ≠ d)
    (hlim : (fs.size : Int) < limit) (hm0 : 0 ≤ made) (hm : made ≤ 1000000000) (hs : nm.size ≤ 1000000) (hne : nm.toList.isEmpty = false)
    (h1 : Instr.findNow (.int .i64) (.int .i64 (made + 1)) fs.toList 0 = some none) (h2 : Instr.findNow .string (.string ⟨#[]⟩) es.toList 0 = some none) (h3 : Instr.findNow .string (.string nm) es.toList 0 = some none) :
    Calls Tryz.prog 53 #[f, .pointer (some ⟨xd, 0, none⟩), .pointer (some ⟨xn, 0, none⟩)] w fun x w' => x = .returned (.int .i64 0) ∧ ∃ p vs vd vf vn', w.heap.size ≤ p ∧ FileAt w' w.heap.size p [] [] [] [] 0 vs (.slice none 0 0) vd vf ∧
      DiskB w' d room limit (.map (some L)) (made + 1) (.map (some Nb)) F vn' off st k1 rd k2 ∧ w'.heap[L]? = some (.map (fs.push { key := .int .i64 (made + 1), val := .pointer (some ⟨p, 0, none⟩), born := c }) (c + 1)) ∧ w'.heap[Nb]? = some (.map (es.push { key := .string nm, val := .int .i64 (made + 1), born := cN }) (cN + 1)) ∧
      w'.ownsRow B 104 3 vn' (n + 1) (xs ++ [.string ⟨#[]⟩, .string nm, .int .i64 (made + 1)]) ∧ Kept (fun k => k = d ∨ k = L ∨ k = Nb ∨ vn.ownBlock = some k) w w' ∧ (vn'.ownBlock = vn.ownBlock ∨ ∃ k, w.heap.size ≤ k ∧ vn'.ownBlock = some k) := by
  obtain ⟨c0, c1, c2, c3, c4, c5, c6, c7, c8, c9, c10, c11⟩ := hD.cells
  have hlen : ∀ m ty, (Builtin.len_ #[82] ty #[.map (some L)]).run Tryz.prog (w.drewN m) = .ok (.int .i64 fs.size) (w.drewN m) := fun m ty => len_map (w := w.drewN m) Tryz.underlying82 hL ty
  have j : decide (limit ≤ (fs.size : Int)) = false := by simp; omega
  have HX := hid (And.intro hD (And.intro hL (And.intro hN hv)))
  have H1 := hid h1
  have H2 := hid h2
  have H3 := hid h3
  clear c0 c3 c4 c5 c6 c7 c8 c9 c10 c11 hD hL hN hv h1 h2 h3
  go_enter Tryz.func53, Tryz.ntmps53
  go_wp2
  go_quiet (fail)
  go_wp2_with fail
  go_region_with (
    first
    | (go_at_call 55
       refine (add_any d _ [] (w.drewN (nq + 1)) room limit L made (.map (some Nb)) F vn off st k1 rd k2 fs c HX.out.1 HX.out.2.1 H1.out hm0 hm (sl_none _) (by simp) (by simp [Value.ownBlock])).mono ?_
       rintro e w1 ⟨rfl, p, vs, vd, vf, hp, hfile, hD1, hL1, hk0⟩
       have hk1 : Kept (fun k => k = d ∨ k = L) w w1 := ⟨hk0.os, hk0.tape, hk0.output, hk0.size, hk0.block⟩
       have hp' : w.heap.size ≤ p := hp
       have hfile' : FileAt w1 w.heap.size p [] [] [] [] 0 vs (.slice none 0 0) vd vf := hfile
       have e1 := (show w1.cell? ⟨xd, 0, none⟩ = some (.pointer (some ⟨d, 0, none⟩)) from hk1.cell hxd (by rintro (e | e); exact hd1 e; exact cell_ne_map hxd HX.out.2.1 e))
       have e2 := (show w1.cell? ⟨xn, 0, none⟩ = some (.string nm) from hk1.cell hxn (by rintro (e | e); exact hd2 e; exact cell_ne_map hxn HX.out.2.1 e))
       have hN1 := (show w1.heap[Nb]? = some (.map es cN) from hp_kept HX.out.2.2.1 hk1 (by rintro (e | e); exact hp_ne HX.out.1 HX.out.2.2.1 (by simp) e.symm; exact hLN e.symm))
       have hv1 := (show w1.ownsRow B 104 3 vn n xs from ownsRow_kept HX.out.2.2.2 hk1 (by
          rintro k hk (e | e)
          · subst e; obtain ⟨cs, h⟩ := owns_block HX.out.2.2.2 k hk; exact hp_ne HX.out.1 h (by simp) rfl
          · subst e; obtain ⟨cs, h⟩ := owns_block HX.out.2.2.2 k hk; exact hp_ne HX.out.2.1 h (by simp) rfl))
       have HY := hid (And.intro hp' (And.intro hfile' (And.intro hD1 (And.intro hL1 (And.intro hk1 (And.intro hN1 hv1))))))
       clear hp hfile hp' hfile' hk0 hD1 hL1 hk1 hN1 hv1)
    | (go_at_call 54
       refine (pend_names B d ⟨#[]⟩ nm (made + 1) w1 room limit (.map (some L)) (made + 1) Nb F vn off st k1 rd k2 es cN n xs (fun wy => wy.heap[Nb]? = some (.map (es.push { key := .string nm, val := .int .i64 (made + 1), born := cN }) (cN + 1))) HY.out.2.2.1 HY.out.2.2.2.2.2.1 (Nat.le_trans hB HY.out.2.2.2.2.1.size) HY.out.2.2.2.2.2.2 hn (show (0 : Nat) ≤ 1000000 by omega) hs (fun wx hx => do_create nm (made + 1) Nb es cN wx hx H2.out H3.out hne)).mono ?_
       rintro e w2 ⟨rfl, vn', hD2, hN2, hv2, hk2, hvo⟩
       have HZ := hid (And.intro hD2 (And.intro hN2 (And.intro hv2 (And.intro hk2 hvo))))
       clear hD2 hN2 hv2 hk2 hvo))
  all_goals go_wp2
  all_goals go_ret
  all_goals
    obtain ⟨hp, hfile, hD1, hL1, hk1, hN1, hv1⟩ := HY.out
    obtain ⟨hD2, hN2, hv2, hk2, hvo⟩ := HZ.out
    obtain ⟨hD0, hL0, hN0, hv0⟩ := HX.out
    have l1 := hp_lt hD0
    have l2 := hp_lt hN0
    have l3 := fun k h => (hv0.lt k h).2
    refine ⟨rfl, p, vs, vd, vf, vn', hp, hfile.low hk2 hp ?_, hD2, hp_kept hL1 hk2 ?_, hN2, hv2, ?_, ?_⟩
    · rintro k (e | e | e)
      · omega
      · omega
      · exact l3 k e
    · rintro (e | e | e)
      · exact hp_ne hD0 hL0 (by simp) e.symm
      · exact hLN e
      · obtain ⟨cs, h⟩ := owns_block hv0 L e
        exact hp_ne hL0 h (by simp) rfl
    · refine (hk1.mono (S' := fun k => k = d ∨ k = L ∨ k = Nb ∨ vn.ownBlock = some k) ?_).trans hk2 ?_
      · rintro i _ (e | e)
        · exact .inl e
        · exact .inr (.inl e)
      · rintro i _ (e | e | e)
        · exact .inl e
        · exact .inr (.inr (.inl e))
        · exact .inr (.inr (.inr e))
    · rcases hvo with e | ⟨k, e1, e2⟩
      · exact .inl e
      · exact .inr ⟨k, Nat.le_trans hk1.size e1, e2⟩

end Go.Proofs.YtlmompdfombgeabGreat

namespace Go.Proofs.YtlmompdfombgeabGreat
open Go.RowKit Go.MapKept

/-- A pending change. -/
abbrev Chg := Sum (List Int) Nat

/-- What a pending change lies as. -/
def ChgAt (w : World) (B : Nat) (vs vd : Value) (v : Value) : Chg → Prop
  | .inl ys => ∃ sv, v = .iface 116 sv ∧ Sn w sv ys ∧ ∀ k, sv.ownBlock = some k → B ≤ k ∧ (∃ cs, w.heap[k]? = some (.cells cs 5 (0, 0))) ∧ vs.ownBlock ≠ some k ∧ vd.ownBlock ≠ some k
  | .inr n => v = .iface 124 (.int .i64 n)

/-- What pending changes lie as. -/
def Pends (w : World) (B : Nat) (vs vd : Value) (pend : List Value) (cs : List Chg) : Prop :=
  pend.length = cs.length ∧ ∀ (i : Nat) (v : Value) (c : Chg), pend[i]? = some v → cs[i]? = some c → ChgAt w B vs vd v c

theorem ChgAt.kept {w w' : World} {B : Nat} {vs vd vs' vd' v : Value} {c : Chg} {S : Nat → Prop} (h : ChgAt w B vs vd v c) (hk : Kept S w w') (hS : ∀ k cs, w.heap[k]? = some (.cells cs 5 (0, 0)) → vs.ownBlock ≠ some k → vd.ownBlock ≠ some k → ¬ S k)
    (h1 : vs'.ownBlock = vs.ownBlock ∨ ∃ k, w.heap.size ≤ k ∧ vs'.ownBlock = some k) (h2 : vd'.ownBlock = vd.ownBlock ∨ ∃ k, w.heap.size ≤ k ∧ vd'.ownBlock = some k) : ChgAt w' B vs' vd' v c := by
  cases c with
  | inr n => exact h
  | inl ys =>
    obtain ⟨sv, rfl, hs, hb⟩ := h
    refine ⟨sv, rfl, hs.kept hk (fun k e => ?_), fun k e => ?_⟩
    · obtain ⟨_, ⟨cs, a⟩, b, c⟩ := hb k e
      exact hS k cs a b c
    · obtain ⟨x, ⟨cs, a⟩, b, c⟩ := hb k e
      refine ⟨x, ⟨cs, hp_kept a hk (hS k cs a b c)⟩, ?_, ?_⟩
      · rcases h1 with h1 | ⟨j, h1, h3⟩
        · rw [h1]; exact b
        · rw [h3]; intro e2; injection e2 with e2; have := hp_lt a; omega
      · rcases h2 with h2 | ⟨j, h2, h3⟩
        · rw [h2]; exact c
        · rw [h3]; intro e2; injection e2 with e2; have := hp_lt a; omega

theorem Pends.kept {w w' : World} {B : Nat} {vs vd vs' vd' : Value} {pend : List Value} {cs : List Chg} {S : Nat → Prop} (h : Pends w B vs vd pend cs) (hk : Kept S w w') (hS : ∀ k cs, w.heap[k]? = some (.cells cs 5 (0, 0)) → vs.ownBlock ≠ some k → vd.ownBlock ≠ some k → ¬ S k)
    (h1 : vs'.ownBlock = vs.ownBlock ∨ ∃ k, w.heap.size ≤ k ∧ vs'.ownBlock = some k) (h2 : vd'.ownBlock = vd.ownBlock ∨ ∃ k, w.heap.size ≤ k ∧ vd'.ownBlock = some k) : Pends w' B vs' vd' pend cs :=
  ⟨h.1, fun i v c a b => (h.2 i v c a b).kept hk hS h1 h2⟩

theorem Pends.nil (w : World) (B : Nat) (vs vd : Value) : Pends w B vs vd [] [] := ⟨rfl, fun i v c a => by simp at a⟩

theorem Pends.snoc {w : World} {B : Nat} {vs vd : Value} {pend : List Value} {cs : List Chg} {v : Value} {c : Chg} (h : Pends w B vs vd pend cs) (hc : ChgAt w B vs vd v c) : Pends w B vs vd (pend ++ [v]) (cs ++ [c]) := by
  refine ⟨by simp [h.1], fun i a b ha hb => ?_⟩
  rw [List.getElem?_append] at ha hb
  have hl := h.1
  split at ha
  · rename_i hi
    rw [if_pos (by omega)] at hb
    exact h.2 i a b ha hb
  · rename_i hi
    rw [if_neg (by omega)] at hb
    have e : i - pend.length = 0 := by
      rcases Nat.eq_zero_or_pos (i - pend.length) with e | e
      · exact e
      · rw [List.getElem?_eq_none (by simp; omega)] at ha; cases ha
    rw [e] at ha
    rw [← hl, e] at hb
    simp at ha hb
    subst ha hb
    exact hc

/-- A disk with one file, and what lies below B is not its. -/
structure One (B : Nat) (w : World) (d L Nb Fb p : Nat) (nm : ByteArray) (room limit : Int) (sf : Array MapEntry) (st rd : Int) (safe : List Int) (cs : List Chg) (data : List Int) (fresh : List Bool) (peak : Int) (nn : Nat) (xs : List Value) (vn k1 k2 : Value) (pend : List Value) (vs vp vd vf : Value) (cL bL cN bN cF : Nat) : Prop where
  disk : DiskB w d room limit (.map (some L)) 1 (.map (some Nb)) (.map (some Fb)) vn false st k1 rd k2
  hL : w.heap[L]? = some (.map #[{ key := .int .i64 1, val := .pointer (some ⟨p, 0, none⟩), born := bL }] cL)
  hN : w.heap[Nb]? = some (.map #[{ key := .string nm, val := .int .i64 1, born := bN }] cN)
  hF : w.heap[Fb]? = some (.map sf cF)
  nf : Nb ≠ Fb
  bl : bL < cL
  bn : bN < cN
  file : FileAt w B p safe pend data fresh peak vs vp vd vf
  pen : Pends w B vs vd pend cs
  nam : w.ownsRow B 104 3 vn nn xs
  kn1 : NoKinds w k1
  kn2 : NoKinds w k2
  ge : B ≤ d ∧ B ≤ L ∧ B ≤ Nb ∧ B ≤ Fb ∧ B ≤ p

theorem One.kept {B : Nat} {w w' : World} {S : Nat → Prop} {d L Nb Fb p : Nat} {nm : ByteArray} {room limit : Int} {sf : Array MapEntry} {st rd : Int} {safe : List Int} {cs : List Chg} {data : List Int} {fresh : List Bool} {peak : Int} {nn : Nat} {xs : List Value} {vn k1 k2 : Value} {pend : List Value} {vs vp vd vf : Value} {cL bL cN bN cF : Nat}
    (h : One B w d L Nb Fb p nm room limit sf st rd safe cs data fresh peak nn xs vn k1 k2 pend vs vp vd vf cL bL cN bN cF) (hk : Kept S w w') (hS : ∀ k, S k → False) : One B w' d L Nb Fb p nm room limit sf st rd safe cs data fresh peak nn xs vn k1 k2 pend vs vp vd vf cL bL cN bN cF :=
  ⟨hp_kept h.disk hk (fun e => hS _ e), hp_kept h.hL hk (fun e => hS _ e), hp_kept h.hN hk (fun e => hS _ e), hp_kept h.hF hk (fun e => hS _ e), h.nf, h.bl, h.bn, h.file.kept hk (fun e => hS _ e) (fun _ _ e => hS _ e) (fun _ _ e => hS _ e) (fun _ _ e => hS _ e) (fun _ _ e => hS _ e),
   h.pen.kept hk (fun _ _ _ _ _ e => hS _ e) (.inl rfl) (.inl rfl), ownsRow_kept h.nam hk (fun _ _ e => hS _ e), h.kn1.kept hk (fun _ _ _ e => hS _ e), h.kn2.kept hk (fun _ _ _ e => hS _ e), h.ge⟩

theorem One.below {B : Nat} {w w' : World} {d L Nb Fb p : Nat} {nm : ByteArray} {room limit : Int} {sf : Array MapEntry} {st rd : Int} {safe : List Int} {cs : List Chg} {data : List Int} {fresh : List Bool} {peak : Int} {nn : Nat} {xs : List Value} {vn k1 k2 : Value} {pend : List Value} {vs vp vd vf : Value} {cL bL cN bN cF : Nat}
    (h : One B w d L Nb Fb p nm room limit sf st rd safe cs data fresh peak nn xs vn k1 k2 pend vs vp vd vf cL bL cN bN cF) (hk : Below w.heap.size w w') : One B w' d L Nb Fb p nm room limit sf st rd safe cs data fresh peak nn xs vn k1 k2 pend vs vp vd vf cL bL cN bN cF :=
  h.kept (Kept.ofBelow hk) (fun _ e => e)

/-- A stroke counted. -/
theorem One.stroke {B : Nat} {w : World} {d L Nb Fb p : Nat} {nm : ByteArray} {room limit : Int} {sf : Array MapEntry} {st rd : Int} {safe : List Int} {cs : List Chg} {data : List Int} {fresh : List Bool} {peak : Int} {nn : Nat} {xs : List Value} {vn k1 k2 : Value} {pend : List Value} {vs vp vd vf : Value} {cL bL cN bN cF : Nat}
    (h : One B w d L Nb Fb p nm room limit sf st rd safe cs data fresh peak nn xs vn k1 k2 pend vs vp vd vf cL bL cN bN cF) (n : Int) (nq : Nat) : One B ((w.setCell ⟨d, 8, none⟩ (.int .i64 n)).drewN nq) d L Nb Fb p nm room limit sf n rd safe cs data fresh peak nn xs vn k1 k2 pend vs vp vd vf cL bL cN bN cF := by
  have hk : Kept (fun k => k = d) w ((w.setCell ⟨d, 8, none⟩ (.int .i64 n)).drewN nq) := by
    have h0 := (Kept.refl (fun k => k = d) w).setCell (p := ⟨d, 8, none⟩) (fun _ => rfl) (.int .i64 n)
    exact ⟨h0.os, h0.tape, h0.output, h0.size, h0.block⟩
  have hd := h.disk
  refine ⟨set_block (i := 8) hd _, hp_kept h.hL hk (fun e => hp_ne hd h.hL (by simp) e.symm), hp_kept h.hN hk (fun e => hp_ne hd h.hN (by simp) e.symm), hp_kept h.hF hk (fun e => hp_ne hd h.hF (by simp) e.symm), h.nf, h.bl, h.bn, h.file.kept hk (fun e => hp_ne hd h.file.blk (by simp) e.symm) ?_ ?_ ?_ ?_, h.pen.kept hk ?_ (.inl rfl) (.inl rfl), ownsRow_kept h.nam hk ?_, h.kn1.kept hk ?_, h.kn2.kept hk ?_, h.ge⟩
  · intro k hq e; subst e; exact own_ne_blk h.file.os hd (by decide) hq
  · intro k hq e; subst e; exact own_ne_blk h.file.op hd (by decide) hq
  · intro k hq e; subst e; exact own_ne_blk h.file.od hd (by decide) hq
  · intro k hq e; subst e; exact own_ne_blk h.file.of hd (by decide) hq
  · intro k cs a _ _ e; subst e; exact hp_ne hd a (by simp) rfl
  · intro k hq e; subst e; exact own_ne_blk h.nam hd (by decide) hq
  · intro b c a e; subst e; exact hp_ne hd a (by simp) rfl
  · intro b c a e; subst e; exact hp_ne hd a (by simp) rfl

end Go.Proofs.YtlmompdfombgeabGreat
