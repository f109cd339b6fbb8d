import Derived.Test.YtlmompdfombgeaaGreatK03
import Derived.Laws.CopyRow
import Derived.Test.YtlmompdfombgeaaGreatK02
namespace Go.Proofs.YtlmompdfombgeaaGreat
open Go.RowKit

theorem Tryz.elem107 : Tryz.prog.underlying 107 = some (.slice (Tryz.prog.elem 107)) := by kernel_rfl
theorem Tryz.elemIs107 : Tryz.prog.elem 107 = 4 := by kernel_rfl
theorem size4 (w : World) : (sizeOf (Tryz.prog.elem 107)).run Tryz.prog w = .ok 1 w := by
  obtain ⟨i0, hi, hz0, hz1, hz2⟩ := info_parts Tryz.info4
  rw [Tryz.elemIs107]
  simp [sizeOf, typeInfo, hi, hz1]

/-- v[:k] of an owned row. -/
theorem own_to {w : World} {B n : Nat} {v : Value} {xs : List Int} (h : w.ownsRow B 5 1 v n (B8 xs)) (k : Nat) (hk : k ≤ n) :
    ∃ rv, (∀ wx : World, (Instr.slice 35 v none (some (.int .i64 k)) none).run Tryz.prog wx = .ok rv wx) ∧ w.ownsRow B 5 1 rv k (B8 (xs.take k)) ∧ rv.ownBlock = v.ownBlock := by
  have hl : xs.length = n := by have := h.1; simp at this; omega
  rcases h.2 with ⟨rfl, h0⟩ | ⟨g, cap, cur, rfl, hb, hg, hc, hm, hs, ht⟩
  · obtain rfl : k = 0 := by omega
    refine ⟨.slice none 0 0, fun wx => ?_, by simpa using owns_nil w B 5 1, rfl⟩
    rw [run_slice_h wx 35 none 0 0 Tryz.elem35 .i64 ((0 : Nat) : Int) (by omega) (by omega), size5]
    rfl
  · refine ⟨.slice (some ⟨g, 0, none⟩) k cap, fun wx => ?_, ⟨by simp [hl]; omega, .inr ⟨g, cap, cur, rfl, hb, hg, by omega, hm, hs, ?_⟩⟩, rfl⟩
    · rw [run_slice_h wx 35 (some ⟨g, 0, none⟩) n cap Tryz.elem35 .i64 k (by omega) (by omega), size5]
      simp [sliced, add_lit]
    · have : (cur.toList.take (n * 1)).take (k * 1) = (B8 xs).take (k * 1) := by rw [ht]
      rw [List.take_take, Nat.min_eq_left (by omega)] at this
      rw [this, ← List.map_take]
      simp

theorem sn_from {w : World} {v : Value} {bs : List Int} (h : Sn w v bs) (lo : Nat) (h1 : lo ≤ bs.length) :
    ∃ rv, (∀ wx : World, (Instr.slice 35 v (some (.int .i64 lo)) none none).run Tryz.prog wx = .ok rv wx) ∧ Sn w rv (bs.drop lo) ∧ (∀ k, rv.ownBlock = some k → v.ownBlock = some k) := by
  obtain ⟨rv, hr, hs, ho⟩ := sl_from h.1 lo h1
  refine ⟨rv, hr, ⟨hs, ?_⟩, ho⟩
  obtain ⟨⟨ao, cap, rfl, hc, hx⟩, hsh⟩ := h
  have e := (hr w).symm.trans (run_slice_l w 35 ao bs.length cap Tryz.elem35 .i64 lo (by omega) (by omega))
  rw [size5] at e
  simp only [Result.andThen] at e
  rcases hsh with hsh | ⟨a, n, c, hsh⟩
  · injection hsh with e1 e2 e3
    have hb : bs = [] := List.eq_nil_of_length_eq_zero e2
    subst hb e1 e3
    obtain rfl : lo = 0 := by simpa using h1
    injection e with e
    left
    rw [e]
    rfl
  · injection hsh with e1 e2 e3
    subst e1
    injection e with e
    right
    rw [e]
    unfold sliced
    split
    · exact ⟨_, _, _, rfl⟩
    · exact ⟨_, _, _, rfl⟩

theorem zero4 (w : World) : (zeroValue 4).run Tryz.prog w = .ok (.bool false) w := by kernel_rfl

theorem zeroCells_bool (n : Nat) : (Builtin.zeroCells (Value.bool false).cells n).toList = List.replicate n (Value.bool false) := by
  apply List.ext_getElem
  · simp [Builtin.zeroCells, Value.cells]
  · intro i h1 h2
    simp [Builtin.zeroCells, Value.cells, Nat.mod_one]

theorem clear_from {B n : Nat} {v : Value} {fs : List Bool} {w : World} (h0 : w.ownsRow B 4 1 v n (BB fs)) (k : Nat) (hk : k ≤ n) :
    ∃ rv, (∀ wx : World, (Instr.slice 107 v (some (.int .i64 k)) none none).run Tryz.prog wx = .ok rv wx) ∧
      (∀ (wx : World) (ty : TypeId), wx.ownsRow B 4 1 v n (BB fs) → ∃ w', (Builtin.clear_ #[107] ty #[rv]).run Tryz.prog wx = .ok (.tuple #[]) w' ∧ w'.ownsRow B 4 1 v n (BB (fs.take k ++ List.replicate (n - k) false)) ∧ wx.grownBy w' v.ownBlock) := by
  have hl : fs.length = n := by have := h0.1; simp at this; omega
  rcases h0.2 with ⟨rfl, hz⟩ | ⟨g, cap, cur, rfl, hb, hg, hc, hm, hs, ht⟩
  · obtain rfl : k = 0 := by omega
    subst hz
    refine ⟨.slice none 0 0, fun wx => ?_, fun wx ty h => ⟨wx, ?_, by simpa using owns_nil wx B 4 1, ⟨rfl, rfl, rfl, Nat.le_refl _, fun _ _ _ => rfl⟩⟩⟩
    · rw [run_slice_l wx 107 none 0 0 Tryz.elem107 .i64 ((0 : Nat) : Int) (by omega) (by omega), size4]
      rfl
    · simp [Builtin.clear_, run_underlying Tryz.underlying107]
  · by_cases hkn : k = n
    · subst hkn
      refine ⟨sliced (some ⟨g, 0, none⟩) k k cap 1, fun wx => ?_, fun wx ty h => ⟨wx, ?_, ?_, ⟨rfl, rfl, rfl, Nat.le_refl _, fun _ _ _ => rfl⟩⟩⟩
      · rw [run_slice_l wx 107 (some ⟨g, 0, none⟩) k cap Tryz.elem107 .i64 k (by omega) (by omega), size4]
        rfl
      · simp only [sliced, Nat.sub_self]
        generalize (if cap = k then some (⟨g, 0, none⟩ : Addr) else (some (⟨g, 0, none⟩ : Addr)).map (·.add (k * 1))) = A
        cases A <;> simp [Builtin.clear_, run_underlying Tryz.underlying107]
      · rw [List.take_of_length_le (by omega), Nat.sub_self]
        simpa using h
    · refine ⟨.slice (some ⟨g, k, none⟩) (n - k) (cap - k), fun wx => ?_, fun wx ty h => ?_⟩
      · rw [run_slice_l wx 107 (some ⟨g, 0, none⟩) n cap Tryz.elem107 .i64 k (by omega) (by omega), size4]
        have : ¬ cap = k := by omega
        simp [sliced, add_lit, this]
      · rcases h.2 with ⟨h1, _⟩ | ⟨g', cap', cur', h1, hb', hg', hc', hm', hs', ht'⟩
        · cases h1
        · injection h1 with e1 e2 e3
          injection e1 with e1
          injection e1 with e1
          subst e1 e3
          have hst := run_storeCells_at (P := Tryz.prog) g k 4 (List.replicate (n - k) (Value.bool false)) 0 cur' wx hg' (by simp; omega) (by intro u hu; rw [List.eq_of_mem_replicate hu]; rfl)
          obtain ⟨Y, hY⟩ : ∃ Y, Y = (cur'.toList.take (k + 0) ++ List.replicate (n - k) (Value.bool false) ++ cur'.toList.drop (k + 0 + (List.replicate (n - k) (Value.bool false)).length)).toArray := ⟨_, rfl⟩
          rw [← hY] at hst
          refine ⟨wx.setRow g Y, ?_, ⟨?_, .inr ⟨g, cap, Y, rfl, hb', setRow_heap wx g cur' _ 4 _ hg', hc', hm', ?_, ?_⟩⟩, ⟨rfl, rfl, rfl, by simp, fun j hj hne => setRow_other _ _ _ _ (fun e => hne (by rw [e]; rfl))⟩⟩
          · have hnz : ¬ n - k = 0 := by omega
            obtain ⟨m, hm2⟩ : ∃ m, n - k = m + 1 := ⟨n - k - 1, by omega⟩
            rw [hm2] at hst ⊢
            simp only [Builtin.clear_, List.getElem?_toArray, List.getElem?_cons_zero, Sem.run_bind, run_underlying Tryz.underlying107, Result.andThen, zero4, zeroCells_bool, hst, Sem.run_pure]
          · simp [hl]; omega
          · rw [hY]; simp; omega
          · rw [hY]
            simp only [List.length_replicate, Nat.add_zero]
            have hc2 : n ≤ cur'.toList.length := by simp; omega
            have e1 : cur'.toList.take k = (BB fs).take k := by
              have : (cur'.toList.take (n * 1)).take k = (BB fs).take k := by rw [ht']
              rwa [List.take_take, Nat.min_eq_left (by omega)] at this
            have e2 : cur'.toList.take k ++ List.replicate (n - k) (Value.bool false) = BB (fs.take k ++ List.replicate (n - k) false) := by
              rw [e1]
              simp [BB, List.map_take]
            rw [e2, List.take_left' (by simp [hl]; omega)]

theorem wpList_clear (w : World) {ops : Array Oper} {rest : List Oper} {o : Oper} {a : Act} {Q : Exit → Act → World → Prop} (hgd : o.guard = none) (x : Operand)
    (ho : o.op = .call { callee := .builtin .clear, args := #[x], argTypes := #[107] }) (rv : Value) (hx : a.eval x = rv) (R : World → Prop) (hr : ∀ ty, ∃ w', (Builtin.clear_ #[107] ty #[rv]).run Tryz.prog w = .ok (.tuple #[]) w' ∧ R w')
    (h : ∀ w', Hid (R w') → wpList Tryz.prog ops Q rest (a.put o.dst (.tuple #[])) w') : wpList Tryz.prog ops Q (o :: rest) a w := by
  refine wpList_plain hgd fun K hK => ?_
  obtain ⟨w', hr, h2⟩ := hr o.type
  unfold Oper.wp execOp
  simp only [ho, resolve, invoke, builtin, Sem.run_bind, Sem.run_pure, Result.andThen_ok, List.map_toArray, List.map_cons, List.map_nil, hx, hr]
  exact hK _ _ (h w' (hid h2))

end Go.Proofs.YtlmompdfombgeaaGreat

namespace Go.Proofs.YtlmompdfombgeaaGreat
open Go.RowKit Go.MapKept

theorem set_last (w : World) (x : Option Nat) (y : Nat) (z : Array Nat) (u : Nat) (o' : Obj) : (setObj w.heap.size o').run Tryz.prog (w.alloc (.mapIter x y z u)) = .ok () (w.alloc o') := by
  have hp : (w.heap.push (.mapIter x y z u)).setIfInBounds w.heap.size o' = w.heap.push o' := by
    apply Array.toList_inj.1
    simp
  simp only [setObj, Sem.run]
  rw [hp_new]
  show Result.ok () ({ w.alloc (.mapIter x y z u) with heap := (w.heap.push (.mapIter x y z u)).setIfInBounds w.heap.size o' } : World) = _
  rw [hp]
  rfl

theorem next_one (w : World) (ty : TypeId) (m c b : Nat) (key val : Value) (hb : w.heap[m]? = some (.map #[{ key := key, val := val, born := b }] c)) (hbc : b < c) :
    (Instr.next (.pointer (some ⟨w.heap.size, 0, none⟩)) false ty).run Tryz.prog (w.alloc (.mapIter (some m) c #[] c)) = .ok (.tuple #[.bool true, key, val]) (w.alloc (.mapIter (some m) c #[b] c)) := by
  have hb' := hp_alloc hb (.mapIter (some m) c #[] c)
  have h1 : ¬ c ≤ b := by omega
  have hs := fun o' => set_last w (some m) c #[] c o'
  simp only [Instr.next, getObj, Sem.run_bind, Sem.run, hp_new, hb', Result.andThen]
  simp [hbc, h1, choose, Sem.run, Question.forced, hs]

theorem next_over (w : World) (ty : TypeId) (m c b : Nat) (key val : Value) (hb : w.heap[m]? = some (.map #[{ key := key, val := val, born := b }] c)) (hbc : b < c) :
    (Instr.next (.pointer (some ⟨w.heap.size, 0, none⟩)) false ty).run Tryz.prog (w.alloc (.mapIter (some m) c #[b] c)) = .ok (.tuple #[.bool false]) (w.alloc (.mapIter (some m) c #[b] c)) := by
  have hb' := hp_alloc hb (.mapIter (some m) c #[b] c)
  have h1 : ¬ c ≤ b := by omega
  simp only [Instr.next, getObj, Sem.run_bind, Sem.run, hp_new, hb', Result.andThen]
  simp [h1, choose, Sem.run, Question.forced]

theorem entry_one (w : World) (m c b : Nat) (key val : Value) (hb : w.heap[m]? = some (.map #[{ key := key, val := val, born := b }] c)) :
    (Instr.entry (.pointer (some ⟨w.heap.size, 0, none⟩))).run Tryz.prog (w.alloc (.mapIter (some m) c #[b] c)) = .ok (.tuple #[key, val]) (w.alloc (.mapIter (some m) c #[b] c)) := by
  have h := run_entry_map (P := Tryz.prog) w m c #[] #[{ key := key, val := val, born := b }] c { key := key, val := val, born := b } hb (by simp) (by simp)
  simpa using h

set_option maxRecDepth 100000 in
set_option maxHeartbeats 1000000 in
theorem held_one (L c b p : Nat) (key : Value) (peak : Int) (w : World) (hL : w.heap[L]? = some (.map #[{ key := key, val := .pointer (some ⟨p, 0, none⟩), born := b }] c)) (hbc : b < c) (hp : w.cell? ⟨p, 4, none⟩ = some (.int .i64 peak)) (h0 : 0 ≤ peak) (h1 : peak ≤ 1000000000) :
    Calls Tryz.prog 74 #[.map (some L)] w fun x w' => x = .returned (.tuple #[.int .i64 peak, .int .i64 1]) ∧ Below w.heap.size w w' := by
  have hr := run_range_map (P := Tryz.prog) w 46 3 100 L _ c Tryz.underlying46 hL
  have hn1 := fun ty => next_one w ty L c b key _ hL hbc
  have hn2 := fun ty => next_over w ty L c b key _ hL hbc
  have he := entry_one w L c b key _ hL
  have hlen := fun ty => len_map (w := w.alloc (.mapIter (some L) c #[b] c)) Tryz.underlying46 (hp_alloc hL _) ty
  have hpl := World.block_lt_of_cell? _ _ hp
  have hnw := World.new_ne w ⟨p, 4, none⟩ hp
  clear hL
  go_enter Tryz.func74, Tryz.ntmps74
  go_wp2
  refine wp_loop_rounds 2 ?_
  rw [rounds_succ]
  go_wp2
  rw [rounds_succ]
  go_wp2
  go_ret2
  exact ⟨rfl, (Below.refl _ _).alloc (Nat.le_refl _) _⟩

end Go.Proofs.YtlmompdfombgeaaGreat

namespace Go.Proofs.YtlmompdfombgeaaGreat
open Go.RowKit Go.MapKept

/-- A map of faults that plans nothing. -/
def NoKinds (w : World) (k : Value) : Prop := k = .map none ∨ ∃ b c, k = .map (some b) ∧ w.heap[b]? = some (.map #[] c)

theorem NoKinds.look {w : World} {k : Value} (h : NoKinds w k) (n : Int) : (Instr.lookup 49 k (.int .i64 n) false).run Tryz.prog w = .ok (.int .i64 0) w := by
  have hz : (zeroValue 3).run Tryz.prog w = .ok (.int .i64 0) w := by kernel_rfl
  rcases h with rfl | ⟨b, c, rfl, hb⟩
  · exact look_nil Tryz.underlying49 Tryz.underlying3 (key_int n) hz false
  · exact look_none Tryz.underlying49 Tryz.underlying3 hb (key_int n) hz rfl false

theorem NoKinds.kept {w w' : World} {k : Value} {S : Nat → Prop} (h : NoKinds w k) (hk : Kept S w w') (hS : ∀ b c, w.heap[b]? = some (.map #[] c) → ¬ S b) : NoKinds w' k := by
  rcases h with rfl | ⟨b, c, rfl, hb⟩
  · exact .inl rfl
  · exact .inr ⟨b, c, rfl, hp_kept hb hk (hS b c hb)⟩

set_option maxRecDepth 100000 in
set_option maxHeartbeats 1000000 in
/-- A stroke, or a reading, that is counted, and no fault. -/
theorem count_any (d o : Nat) (n : Int) (k : Value) (w : World) (cs : Array Value) (t : TypeId) (hd : w.heap[d]? = some (.cells cs t (0, 0))) (c0 : w.cell? ⟨d, o, none⟩ = some (.int .i64 n)) (c1 : w.cell? ⟨d, o + 1, none⟩ = some k) (hn0 : 0 ≤ n) (hn : n ≤ 1000000000) (hk : NoKinds w k) :
    Calls Tryz.prog 70 #[.pointer (some ⟨d, 0, none⟩), .pointer (some ⟨d, o, none⟩)] w fun x w' => ∃ nq, x = .returned (.int .i64 0) ∧ w' = (w.setCell ⟨d, o, none⟩ (.int .i64 (n + 1))).drewN nq := by
  have ff : ∀ i, w.frozen? ⟨d, i, none⟩ = false := fun i => free_of_block hd
  have hk2 : NoKinds (w.setCell ⟨d, o, none⟩ (.int .i64 (n + 1))) k := hk.kept (S := fun k => k = d) ((Kept.refl (fun k => k = d) w).setCell (p := ⟨d, o, none⟩) (fun _ => rfl) _) (fun b c hb e => by subst e; rw [hd] at hb; cases hb)
  have hl : ∀ m, (Instr.lookup 49 k (.int .i64 (n + 1)) false).run Tryz.prog ((w.setCell ⟨d, o, none⟩ (.int .i64 (n + 1))).drewN m) = .ok (.int .i64 0) ((w.setCell ⟨d, o, none⟩ (.int .i64 (n + 1))).drewN m) := fun m => NoKinds.look (w := (w.setCell ⟨d, o, none⟩ (.int .i64 (n + 1))).drewN m) hk2 _
  clear hk hk2 hd
  go_enter Tryz.func70, Tryz.ntmps70
  go_wp2
  go_quiet (fail)
  go_wp2
  go_ret
  exact ⟨nq, rfl, rfl⟩

/-- Is it a name? -/
def nmOK (s : ByteArray) : Bool := decide (1 ≤ s.size) && decide (s.size ≤ 40) && s.data.toList.all (fun c => decide (33 ≤ c.toNat) && decide (c.toNat ≤ 126))

theorem take_snocB (s : ByteArray) (k : Nat) (h : k < s.size) : s.data.toList.take (k + 1) = s.data.toList.take k ++ [s[k]] := by
  rw [List.take_succ_eq_append_getElem (by simpa using h)]; rfl

set_option maxRecDepth 100000 in
set_option maxHeartbeats 1000000 in
theorem isName_any (s : ByteArray) (w : World) (hs : s.size ≤ maxLen) : Calls Tryz.prog 89 #[.string s] w fun x w' => x = .returned (.bool (nmOK s)) ∧ w' = w := by
  unfold maxLen at hs
  obtain ⟨r, hr⟩ : ∃ r, r = nmOK s := ⟨_, rfl⟩
  rw [← hr]
  have HR := hid hr
  clear hr
  by_cases h1 : (s.size : Int) < 1
  · have Hr := hid (show nmOK s = false by have : ¬ 1 ≤ s.size := by omega
                                           simp [nmOK, this])
    go_enter Tryz.func89, Tryz.ntmps89
    go_wp2
    go_ret
    exact ⟨by rw [HR.out, Hr.out]; rfl, rfl⟩
  · by_cases h2 : 40 < (s.size : Int)
    · have Hr := hid (show nmOK s = false by have : ¬ s.size ≤ 40 := by omega
                                             simp [nmOK, this])
      go_enter Tryz.func89, Tryz.ntmps89
      go_wp2
      go_ret
      exact ⟨by rw [HR.out, Hr.out]; rfl, rfl⟩
    · go_enter Tryz.func89, Tryz.ntmps89
      go_wp2
      go_loop [3, 14] (fun _ i => ∃ k : Nat, k ≤ s.size ∧ i = .int .i64 k ∧ Hid ((s.data.toList.take k).all (fun c => decide (33 ≤ c.toNat) && decide (c.toNat ≤ 126)) = true)) (fun _ i => s.size - (intOf i).toNat)
      case atStart => exact ⟨0, Nat.zero_le _, rfl, hid (by simp)⟩
      case round =>
        obtain ⟨k, hk, rfl, hall⟩ := hrel
        by_cases hlt : k < s.size
        · by_cases hgo : 33 ≤ s[k].toNat ∧ s[k].toNat ≤ 126
          · obtain ⟨g1, g2⟩ := hgo
            have HN := hid (show (s.data.toList.take (k + 1)).all (fun c => decide (33 ≤ c.toNat) && decide (c.toNat ≤ 126)) = true by rw [take_snocB s k hlt, List.all_append, hall.out]; simp [g1, g2])
            have j1 : ¬ ((s[k].toNat : Int) < 33) := by omega
            have j2 : ¬ (126 < (s[k].toNat : Int)) := by omega
            go_wp2
            go_round
            case rel => exact ⟨k + 1, by omega, by go_num, HN⟩
            case measure => simp [intOf]; omega
          · have Hr := hid (show nmOK s = false by
              have hm : s[k] ∈ s.data.toList := by
                have : s[k] ∈ s.data.toList.take (k + 1) := by rw [take_snocB s k hlt]; simp
                exact List.mem_of_mem_take this
              have hf : s.data.toList.all (fun c => decide (33 ≤ c.toNat) && decide (c.toNat ≤ 126)) = false := by
                rw [Bool.eq_false_iff]
                intro h
                have := List.all_eq_true.1 h _ hm
                simp at this
                exact hgo this
              simp [nmOK, hf])
            by_cases j1 : (s[k].toNat : Int) < 33
            · go_wp2
              go_ret
              exact ⟨by rw [HR.out, Hr.out]; rfl, rfl⟩
            · have j2 : 126 < (s[k].toNat : Int) := by omega
              go_wp2
              go_ret
              exact ⟨by rw [HR.out, Hr.out]; rfl, rfl⟩
        · have Hr := hid (show nmOK s = true by
            have := hall.out
            rw [List.take_of_length_le (by simp; omega)] at this
            have a1 : 1 ≤ s.size := by omega
            have a2 : s.size ≤ 40 := by omega
            simp only [nmOK, this, a1, a2, decide_true, Bool.and_true])
          go_wp2
          go_ret
          exact ⟨by rw [HR.out, Hr.out]; rfl, rfl⟩

end Go.Proofs.YtlmompdfombgeaaGreat

namespace Go.Proofs.YtlmompdfombgeaaGreat
open Go.RowKit Go.MapKept

theorem below_drewN {B : Nat} {w w' : World} (h : Below B w w') (n : Nat) : Below B w (w'.drewN n) := ⟨h.os, h.tape, h.output, h.size, h.block⟩

theorem zero3 (w : World) : (zeroValue 3).run Tryz.prog w = .ok (.int .i64 0) w := by kernel_rfl

set_option maxRecDepth 100000 in
set_option maxHeartbeats 1000000 in
theorem find_plain (d : Nat) (w : World) (c7 : w.cell? ⟨d, 7, none⟩ = some (.bool false)) :
    Calls Tryz.prog 69 #[.pointer (some ⟨d, 0, none⟩), .agg #[.slice none 0 0, .bool false, .int .i64 0]] w fun x w' => x = .returned (.tuple #[.pointer none, .int .i64 0]) ∧ Below w.heap.size w w' := by
  have hnw := World.new_ne w ⟨d, 7, none⟩ c7
  have hdl := World.block_lt_of_cell? _ _ c7
  go_enter Tryz.func69, Tryz.ntmps69
  go_wp2
  refine wp_loop_rounds 1 ?_
  rw [rounds_succ]
  go_wp2
  go_ret2
  exact ⟨rfl, (Below.refl _ _).alloc (Nat.le_refl _) _⟩

set_option maxRecDepth 100000 in
set_option maxHeartbeats 1000000 in
theorem find_absent (d g Nb : Nat) (nm : ByteArray) (es : Array MapEntry) (c : Nat) (w : World) (c7 : w.cell? ⟨d, 7, none⟩ = some (.bool false)) (c4 : w.cell? ⟨d, 4, none⟩ = some (.map (some Nb))) (hN : w.heap[Nb]? = some (.map es c)) (hg : w.cell? ⟨g, 0, none⟩ = some (.string nm)) (hok : nmOK nm = true) (hs : nm.size ≤ maxLen)
    (hf : Instr.findNow .string (.string nm) es.toList 0 = some none) :
    Calls Tryz.prog 69 #[.pointer (some ⟨d, 0, none⟩), .agg #[.slice (some ⟨g, 0, none⟩) 1 1, .bool true, .int .i64 0]] w fun x w' => x = .returned (.tuple #[.pointer none, .int .i64 0]) ∧ Below w.heap.size w w' := by
  have hdl := World.block_lt_of_cell? _ _ c7
  have hgl := World.block_lt_of_cell? _ _ hg
  have hl : ∀ m, (Instr.lookup 47 (.map (some Nb)) (.string nm) true).run Tryz.prog ((w.alloc (.cells #[.slice (some ⟨g, 0, none⟩) 1 1, .bool true, .int .i64 0] 104)).drewN m) = .ok (.tuple #[.int .i64 0, .bool false]) ((w.alloc (.cells #[.slice (some ⟨g, 0, none⟩) 1 1, .bool true, .int .i64 0] 104)).drewN m) := fun m =>
    look_none (w := (w.alloc (.cells #[.slice (some ⟨g, 0, none⟩) 1 1, .bool true, .int .i64 0] 104)).drewN m) Tryz.underlying47 Tryz.underlying9 (hp_alloc hN _) (key_str nm) (zero3 _) hf true
  clear hN hf
  go_enter Tryz.func69, Tryz.ntmps69
  go_wp2
  refine wp_loop_rounds 2 ?_
  rw [rounds_succ]
  go_wp2_with (go_at_call 89; refine (isName_any nm _ hs).mono ?_; rw [hok]; rintro e w' ⟨rfl, rfl⟩)
  rw [rounds_succ]
  go_wp2
  go_quiet (fail)
  go_wp2
  go_ret2
  exact ⟨rfl, below_drewN ((Below.refl _ _).alloc (Nat.le_refl _) _) _⟩

set_option maxRecDepth 100000 in
set_option maxHeartbeats 1000000 in
theorem find_exists (d g Nb : Nat) (nm : ByteArray) (es : Array MapEntry) (c i : Nat) (n : Int) (w : World) (c7 : w.cell? ⟨d, 7, none⟩ = some (.bool false)) (c4 : w.cell? ⟨d, 4, none⟩ = some (.map (some Nb))) (hN : w.heap[Nb]? = some (.map es c)) (hg : w.cell? ⟨g, 0, none⟩ = some (.string nm)) (hok : nmOK nm = true) (hs : nm.size ≤ maxLen)
    (hf : Instr.findNow .string (.string nm) es.toList 0 = some (some (i, .int .i64 n))) :
    Calls Tryz.prog 69 #[.pointer (some ⟨d, 0, none⟩), .agg #[.slice (some ⟨g, 0, none⟩) 1 1, .bool true, .int .i64 0]] w fun x w' => x = .returned (.tuple #[.pointer none, .int .i64 7]) ∧ Below w.heap.size w w' := by
  have hdl := World.block_lt_of_cell? _ _ c7
  have hgl := World.block_lt_of_cell? _ _ hg
  have hl : ∀ m, (Instr.lookup 47 (.map (some Nb)) (.string nm) true).run Tryz.prog ((w.alloc (.cells #[.slice (some ⟨g, 0, none⟩) 1 1, .bool true, .int .i64 0] 104)).drewN m) = .ok (.tuple #[.int .i64 n, .bool true]) ((w.alloc (.cells #[.slice (some ⟨g, 0, none⟩) 1 1, .bool true, .int .i64 0] 104)).drewN m) := fun m =>
    look_found (w := (w.alloc (.cells #[.slice (some ⟨g, 0, none⟩) 1 1, .bool true, .int .i64 0] 104)).drewN m) Tryz.underlying47 Tryz.underlying9 (hp_alloc hN _) (key_str nm) hf true
  clear hN hf
  go_enter Tryz.func69, Tryz.ntmps69
  go_wp2
  refine wp_loop_rounds 2 ?_
  rw [rounds_succ]
  go_wp2_with (go_at_call 89; refine (isName_any nm _ hs).mono ?_; rw [hok]; rintro e w' ⟨rfl, rfl⟩)
  rw [rounds_succ]
  go_wp2
  go_quiet (fail)
  go_wp2
  go_ret2
  exact ⟨rfl, below_drewN ((Below.refl _ _).alloc (Nat.le_refl _) _) _⟩

set_option maxRecDepth 100000 in
set_option maxHeartbeats 1000000 in
theorem find_there (d g Nb L p : Nat) (nm : ByteArray) (es fs : Array MapEntry) (c c' i i' : Nat) (n sz : Int) (ao : Option Addr) (len cap : Nat) (w : World) (c7 : w.cell? ⟨d, 7, none⟩ = some (.bool false)) (c4 : w.cell? ⟨d, 4, none⟩ = some (.map (some Nb))) (c2 : w.cell? ⟨d, 2, none⟩ = some (.map (some L))) (hN : w.heap[Nb]? = some (.map es c)) (hL : w.heap[L]? = some (.map fs c')) (hg : w.cell? ⟨g, 0, none⟩ = some (.string nm)) (hok : nmOK nm = true) (hs : nm.size ≤ maxLen)
    (hf : Instr.findNow .string (.string nm) es.toList 0 = some (some (i, .int .i64 n))) (hf2 : Instr.findNow (.int .i64) (.int .i64 n) fs.toList 0 = some (some (i', .pointer (some ⟨p, 0, none⟩)))) (hp : w.cell? ⟨p, 2, none⟩ = some (.slice ao len cap)) (h0 : 0 ≤ sz) (h1 : sz ≤ len) :
    Calls Tryz.prog 69 #[.pointer (some ⟨d, 0, none⟩), .agg #[.slice (some ⟨g, 0, none⟩) 1 1, .bool false, .int .i64 sz]] w fun x w' => x = .returned (.tuple #[.pointer (some ⟨p, 0, none⟩), .int .i64 0]) ∧ Below w.heap.size w w' := by
  have hdl := World.block_lt_of_cell? _ _ c7
  have hgl := World.block_lt_of_cell? _ _ hg
  have hpl := World.block_lt_of_cell? _ _ hp
  have hl : ∀ m, (Instr.lookup 47 (.map (some Nb)) (.string nm) true).run Tryz.prog ((w.alloc (.cells #[.slice (some ⟨g, 0, none⟩) 1 1, .bool false, .int .i64 sz] 104)).drewN m) = .ok (.tuple #[.int .i64 n, .bool true]) ((w.alloc (.cells #[.slice (some ⟨g, 0, none⟩) 1 1, .bool false, .int .i64 sz] 104)).drewN m) := fun m =>
    look_found (w := (w.alloc (.cells #[.slice (some ⟨g, 0, none⟩) 1 1, .bool false, .int .i64 sz] 104)).drewN m) Tryz.underlying47 Tryz.underlying9 (hp_alloc hN _) (key_str nm) hf true
  have hl2 : ∀ m, (Instr.lookup 46 (.map (some L)) (.int .i64 n) false).run Tryz.prog ((w.alloc (.cells #[.slice (some ⟨g, 0, none⟩) 1 1, .bool false, .int .i64 sz] 104)).drewN m) = .ok (.pointer (some ⟨p, 0, none⟩)) ((w.alloc (.cells #[.slice (some ⟨g, 0, none⟩) 1 1, .bool false, .int .i64 sz] 104)).drewN m) := fun m =>
    look_found (w := (w.alloc (.cells #[.slice (some ⟨g, 0, none⟩) 1 1, .bool false, .int .i64 sz] 104)).drewN m) Tryz.underlying46 Tryz.underlying3 (hp_alloc hL _) (key_int n) hf2 false
  have j1 : decide (sz < 0) = false := by simp; omega
  have j2 : decide ((len : Int) < sz) = false := by simp; omega
  clear hN hf hL hf2
  go_enter Tryz.func69, Tryz.ntmps69
  go_wp2
  refine wp_loop_rounds 2 ?_
  rw [rounds_succ]
  go_wp2_with (go_at_call 89; refine (isName_any nm _ hs).mono ?_; rw [hok]; rintro e w' ⟨rfl, rfl⟩)
  rw [rounds_succ]
  go_wp2
  go_quiet (fail)
  go_wp2
  go_quiet (fail)
  go_wp2
  go_ret2
  exact ⟨rfl, below_drewN ((Below.refl _ _).alloc (Nat.le_refl _) _) _⟩

end Go.Proofs.YtlmompdfombgeaaGreat

namespace Go.Proofs.YtlmompdfombgeaaGreat
open Go.RowKit Go.MapKept

set_option maxRecDepth 100000 in
set_option maxHeartbeats 1000000 in
theorem stroke_ok (d fn : Nat) (a b c fv : Value) (cap : Array Value) (r : Int) (w : World) (R1 R2 R3 : World → Prop) (he : ∀ args w, (callFunc fn args).run Tryz.prog w = .ok (.enter fn args) w) (_ha : a.cells = #[a]) (_hb : b.cells = #[b]) (_hc : c.cells = #[c])
    (hfind : Calls Tryz.prog 69 #[.pointer (some ⟨d, 0, none⟩), .agg #[a, b, c]] (w.alloc (.cells #[a, b, c] 104)) fun x w1 => x = .returned (.tuple #[fv, .int .i64 0]) ∧ R1 w1)
    (hcount : ∀ w1, R1 w1 → Calls Tryz.prog 70 #[.pointer (some ⟨d, 0, none⟩), .pointer (some ⟨d, 8, none⟩)] w1 fun x w2 => x = .returned (.int .i64 0) ∧ R2 w2)
    (hdo : ∀ w2, R2 w2 → Calls Tryz.prog fn (#[fv] ++ cap) w2 fun x w3 => x = .returned (.int .i64 r) ∧ R3 w3) :
    Calls Tryz.prog 76 #[.pointer (some ⟨d, 0, none⟩), .agg #[a, b, c], .func (.func fn) #[] cap] w fun x w3 => x = .returned (.int .i64 r) ∧ R3 w3 := by
  have HF := hid hfind
  have HC := hid hcount
  have HDo := hid hdo
  clear hfind hcount hdo
  go_enter Tryz.func76, Tryz.ntmps76
  go_wp2_with (first
    | (go_at_call 69; refine HF.out.mono ?_; rintro e w1 ⟨rfl, h1⟩; have H1 := hid h1; clear h1)
    | (go_at_call 70; refine (HC.out _ H1.out).mono ?_; rintro e w2 ⟨rfl, h2⟩; have H2 := hid h2; clear h2)
    | (refine (HDo.out _ H2.out).mono ?_; rintro e w3 ⟨rfl, h3⟩; have H3 := hid h3; clear h3))
  go_ret
  exact ⟨rfl, H3.out⟩

set_option maxRecDepth 100000 in
set_option maxHeartbeats 1000000 in
theorem stroke_no (d fn : Nat) (a b c fv : Value) (cap : Array Value) (r : Int) (w : World) (R1 : World → Prop) (hr : (r == 0) = false) (_ha : a.cells = #[a]) (_hb : b.cells = #[b]) (_hc : c.cells = #[c])
    (hfind : Calls Tryz.prog 69 #[.pointer (some ⟨d, 0, none⟩), .agg #[a, b, c]] (w.alloc (.cells #[a, b, c] 104)) fun x w1 => x = .returned (.tuple #[fv, .int .i64 r]) ∧ R1 w1) :
    Calls Tryz.prog 76 #[.pointer (some ⟨d, 0, none⟩), .agg #[a, b, c], .func (.func fn) #[] cap] w fun x w3 => x = .returned (.int .i64 r) ∧ R1 w3 := by
  have HF := hid hfind
  clear hfind
  go_enter Tryz.func76, Tryz.ntmps76
  go_wp2_with (first
    | (go_at_call 69; refine HF.out.mono ?_; rintro e w1 ⟨rfl, h1⟩; have H1 := hid h1; clear h1))
  go_ret
  exact ⟨rfl, H1.out⟩

end Go.Proofs.YtlmompdfombgeaaGreat

namespace Go.Proofs.YtlmompdfombgeaaGreat
open Go.RowKit Go.MapKept

theorem cell_cells {w : World} {k o : Nat} {v : Value} (h : w.cell? ⟨k, o, none⟩ = some v) : ∃ cs t fr, w.heap[k]? = some (.cells cs t fr) := by
  unfold World.cell? at h
  dsimp only at h
  split at h
  · rename_i cs t fr hh
    exact ⟨cs, t, fr, hh⟩
  · cases h

theorem cell_ne_map {w : World} {k b o : Nat} {v : Value} {es : Array MapEntry} {c : Nat} (h : w.cell? ⟨k, o, none⟩ = some v) (hb : w.heap[b]? = some (.map es c)) : k ≠ b := by
  obtain ⟨cs, t, fr, hh⟩ := cell_cells h
  exact hp_ne hh hb (by simp)

theorem sl_none (w : World) : Sl w (.slice none 0 0) [] := ⟨none, 0, rfl, Nat.le_refl _, fun h => absurd rfl h⟩

set_option maxRecDepth 100000 in
set_option maxHeartbeats 1000000 in
theorem create1_any (B d xd xn : Nat) (f : Value) (nm : ByteArray) (w : World) (room limit : Int) (L : Nat) (made : Int) (Nb : Nat) (F vn : Value) (off : Bool) (st : Int) (k1 : Value) (rd : Int) (k2 : Value) (fs es : Array MapEntry) (c cN n : Nat) (xs : List Value)
    (hD : DiskB w d room limit (.map (some L)) made (.map (some Nb)) F vn off st k1 rd k2) (hL : w.heap[L]? = some (.map fs c)) (hN : w.heap[Nb]? = some (.map es cN)) (hLN : L ≠ Nb) (hB : B ≤ w.heap.size) (hv : w.ownsRow B 121 3 vn n xs) (hn : n ≤ 1000000)
    (hxd : w.cell? ⟨xd, 0, none⟩ = some (.pointer (some ⟨d, 0, none⟩))) (hxn : w.cell? ⟨xn, 0, none⟩ = some (.string nm))
    (hd1 : xd ≠ d) (hd2 : xn ≠ d)
    (hlim : (fs.size : Int) < limit) (hm0 : 0 ≤ made) (hm : made ≤ 1000000000) (hs : nm.size ≤ 1000000) (hne : nm.toList.isEmpty = false)
    (h1 : Instr.findNow (.int .i64) (.int .i64 (made + 1)) fs.toList 0 = some none) (h2 : Instr.findNow .string (.string ⟨#[]⟩) es.toList 0 = some none) (h3 : Instr.findNow .string (.string nm) es.toList 0 = some none) :
    Calls Tryz.prog 77 #[f, .pointer (some ⟨xd, 0, none⟩), .pointer (some ⟨xn, 0, none⟩)] w fun x w' => x = .returned (.int .i64 0) ∧ ∃ p vs vd vf vn', w.heap.size ≤ p ∧ FileAt w' w.heap.size p [] [] [] [] 0 vs (.slice none 0 0) vd vf ∧
      DiskB w' d room limit (.map (some L)) (made + 1) (.map (some Nb)) F vn' off st k1 rd k2 ∧ w'.heap[L]? = some (.map (fs.push { key := .int .i64 (made + 1), val := .pointer (some ⟨p, 0, none⟩), born := c }) (c + 1)) ∧ w'.heap[Nb]? = some (.map (es.push { key := .string nm, val := .int .i64 (made + 1), born := cN }) (cN + 1)) ∧
      w'.ownsRow B 121 3 vn' (n + 1) (xs ++ [.string ⟨#[]⟩, .string nm, .int .i64 (made + 1)]) ∧ Kept (fun k => k = d ∨ k = L ∨ k = Nb ∨ vn.ownBlock = some k) w w' ∧ (vn'.ownBlock = vn.ownBlock ∨ ∃ k, w.heap.size ≤ k ∧ vn'.ownBlock = some k) := by
  obtain ⟨c0, c1, c2, c3, c4, c5, c6, c7, c8, c9, c10, c11⟩ := hD.cells
  have hlen : ∀ m ty, (Builtin.len_ #[46] ty #[.map (some L)]).run Tryz.prog (w.drewN m) = .ok (.int .i64 fs.size) (w.drewN m) := fun m ty => len_map (w := w.drewN m) Tryz.underlying46 hL ty
  have j : decide (limit ≤ (fs.size : Int)) = false := by simp; omega
  have HX := hid (And.intro hD (And.intro hL (And.intro hN hv)))
  have H1 := hid h1
  have H2 := hid h2
  have H3 := hid h3
  clear c0 c3 c4 c5 c6 c7 c8 c9 c10 c11 hD hL hN hv h1 h2 h3
  go_enter Tryz.func77, Tryz.ntmps77
  go_wp2
  go_quiet (fail)
  go_wp2_with fail
  go_region_with (
    first
    | (go_at_call 79
       refine (add_any d _ [] (w.drewN (nq + 1)) room limit L made (.map (some Nb)) F vn off st k1 rd k2 fs c HX.out.1 HX.out.2.1 H1.out hm0 hm (sl_none _) (by simp) (by simp [Value.ownBlock])).mono ?_
       rintro e w1 ⟨rfl, p, vs, vd, vf, hp, hfile, hD1, hL1, hk0⟩
       have hk1 : Kept (fun k => k = d ∨ k = L) w w1 := ⟨hk0.os, hk0.tape, hk0.output, hk0.size, hk0.block⟩
       have hp' : w.heap.size ≤ p := hp
       have hfile' : FileAt w1 w.heap.size p [] [] [] [] 0 vs (.slice none 0 0) vd vf := hfile
       have e1 := (show w1.cell? ⟨xd, 0, none⟩ = some (.pointer (some ⟨d, 0, none⟩)) from hk1.cell hxd (by rintro (e | e); exact hd1 e; exact cell_ne_map hxd HX.out.2.1 e))
       have e2 := (show w1.cell? ⟨xn, 0, none⟩ = some (.string nm) from hk1.cell hxn (by rintro (e | e); exact hd2 e; exact cell_ne_map hxn HX.out.2.1 e))
       have hN1 := (show w1.heap[Nb]? = some (.map es cN) from hp_kept HX.out.2.2.1 hk1 (by rintro (e | e); exact hp_ne HX.out.1 HX.out.2.2.1 (by simp) e.symm; exact hLN e.symm))
       have hv1 := (show w1.ownsRow B 121 3 vn n xs from ownsRow_kept HX.out.2.2.2 hk1 (by
          rintro k hk (e | e)
          · subst e; obtain ⟨cs, h⟩ := owns_block HX.out.2.2.2 k hk; exact hp_ne HX.out.1 h (by simp) rfl
          · subst e; obtain ⟨cs, h⟩ := owns_block HX.out.2.2.2 k hk; exact hp_ne HX.out.2.1 h (by simp) rfl))
       have HY := hid (And.intro hp' (And.intro hfile' (And.intro hD1 (And.intro hL1 (And.intro hk1 (And.intro hN1 hv1))))))
       clear hp hfile hp' hfile' hk0 hD1 hL1 hk1 hN1 hv1)
    | (go_at_call 78
       refine (pend_names B d ⟨#[]⟩ nm (made + 1) w1 room limit (.map (some L)) (made + 1) Nb F vn off st k1 rd k2 es cN n xs (fun wy => wy.heap[Nb]? = some (.map (es.push { key := .string nm, val := .int .i64 (made + 1), born := cN }) (cN + 1))) HY.out.2.2.1 HY.out.2.2.2.2.2.1 (Nat.le_trans hB HY.out.2.2.2.2.1.size) HY.out.2.2.2.2.2.2 hn (show (0 : Nat) ≤ 1000000 by omega) hs (fun wx hx => do_create nm (made + 1) Nb es cN wx hx H2.out H3.out hne)).mono ?_
       rintro e w2 ⟨rfl, vn', hD2, hN2, hv2, hk2, hvo⟩
       have HZ := hid (And.intro hD2 (And.intro hN2 (And.intro hv2 (And.intro hk2 hvo))))
       clear hD2 hN2 hv2 hk2 hvo))
  all_goals go_wp2
  all_goals go_ret
  all_goals
    obtain ⟨hp, hfile, hD1, hL1, hk1, hN1, hv1⟩ := HY.out
    obtain ⟨hD2, hN2, hv2, hk2, hvo⟩ := HZ.out
    obtain ⟨hD0, hL0, hN0, hv0⟩ := HX.out
    have l1 := hp_lt hD0
    have l2 := hp_lt hN0
    have l3 := fun k h => (hv0.lt k h).2
    refine ⟨rfl, p, vs, vd, vf, vn', hp, hfile.low hk2 hp ?_, hD2, hp_kept hL1 hk2 ?_, hN2, hv2, ?_, ?_⟩
    · rintro k (e | e | e)
      · omega
      · omega
      · exact l3 k e
    · rintro (e | e | e)
      · exact hp_ne hD0 hL0 (by simp) e.symm
      · exact hLN e
      · obtain ⟨cs, h⟩ := owns_block hv0 L e
        exact hp_ne hL0 h (by simp) rfl
    · refine (hk1.mono (S' := fun k => k = d ∨ k = L ∨ k = Nb ∨ vn.ownBlock = some k) ?_).trans hk2 ?_
      · rintro i _ (e | e)
        · exact .inl e
        · exact .inr (.inl e)
      · rintro i _ (e | e | e)
        · exact .inl e
        · exact .inr (.inr (.inl e))
        · exact .inr (.inr (.inr e))
    · rcases hvo with e | ⟨k, e1, e2⟩
      · exact .inl e
      · exact .inr ⟨k, Nat.le_trans hk1.size e1, e2⟩

end Go.Proofs.YtlmompdfombgeaaGreat
