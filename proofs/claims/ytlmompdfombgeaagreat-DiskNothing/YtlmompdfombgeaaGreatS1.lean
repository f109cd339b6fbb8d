import Derived.Test.YtlmompdfombgeaaGreatG3
import Derived.Laws.CopyRow
namespace Go.Proofs.YtlmompdfombgeaaGreat
open Go.RowKit

theorem Tryz.elem107 : Tryz.prog.underlying 107 = some (.slice (Tryz.prog.elem 107)) := by kernel_rfl
theorem Tryz.elemIs107 : Tryz.prog.elem 107 = 4 := by kernel_rfl
theorem size4 (w : World) : (sizeOf (Tryz.prog.elem 107)).run Tryz.prog w = .ok 1 w := by
  obtain ⟨i0, hi, hz0, hz1, hz2⟩ := info_parts Tryz.info4
  rw [Tryz.elemIs107]
  simp [sizeOf, typeInfo, hi, hz1]

/-- v[:k] of an owned row. -/
theorem own_to {w : World} {B n : Nat} {v : Value} {xs : List Int} (h : w.ownsRow B 5 1 v n (B8 xs)) (k : Nat) (hk : k ≤ n) :
    ∃ rv, (∀ wx : World, (Instr.slice 35 v none (some (.int .i64 k)) none).run Tryz.prog wx = .ok rv wx) ∧ w.ownsRow B 5 1 rv k (B8 (xs.take k)) ∧ rv.ownBlock = v.ownBlock := by
  have hl : xs.length = n := by have := h.1; simp at this; omega
  rcases h.2 with ⟨rfl, h0⟩ | ⟨g, cap, cur, rfl, hb, hg, hc, hm, hs, ht⟩
  · obtain rfl : k = 0 := by omega
    refine ⟨.slice none 0 0, fun wx => ?_, by simpa using owns_nil w B 5 1, rfl⟩
    rw [run_slice_h wx 35 none 0 0 Tryz.elem35 .i64 ((0 : Nat) : Int) (by omega) (by omega), size5]
    rfl
  · refine ⟨.slice (some ⟨g, 0, none⟩) k cap, fun wx => ?_, ⟨by simp [hl]; omega, .inr ⟨g, cap, cur, rfl, hb, hg, by omega, hm, hs, ?_⟩⟩, rfl⟩
    · rw [run_slice_h wx 35 (some ⟨g, 0, none⟩) n cap Tryz.elem35 .i64 k (by omega) (by omega), size5]
      simp [sliced, add_lit]
    · have : (cur.toList.take (n * 1)).take (k * 1) = (B8 xs).take (k * 1) := by rw [ht]
      rw [List.take_take, Nat.min_eq_left (by omega)] at this
      rw [this, ← List.map_take]
      simp

theorem sn_from {w : World} {v : Value} {bs : List Int} (h : Sn w v bs) (lo : Nat) (h1 : lo ≤ bs.length) :
    ∃ rv, (∀ wx : World, (Instr.slice 35 v (some (.int .i64 lo)) none none).run Tryz.prog wx = .ok rv wx) ∧ Sn w rv (bs.drop lo) ∧ (∀ k, rv.ownBlock = some k → v.ownBlock = some k) := by
  obtain ⟨rv, hr, hs, ho⟩ := sl_from h.1 lo h1
  refine ⟨rv, hr, ⟨hs, ?_⟩, ho⟩
  obtain ⟨⟨ao, cap, rfl, hc, hx⟩, hsh⟩ := h
  have e := (hr w).symm.trans (run_slice_l w 35 ao bs.length cap Tryz.elem35 .i64 lo (by omega) (by omega))
  rw [size5] at e
  simp only [Result.andThen] at e
  rcases hsh with hsh | ⟨a, n, c, hsh⟩
  · injection hsh with e1 e2 e3
    have hb : bs = [] := List.eq_nil_of_length_eq_zero e2
    subst hb e1 e3
    obtain rfl : lo = 0 := by simpa using h1
    injection e with e
    left
    rw [e]
    rfl
  · injection hsh with e1 e2 e3
    subst e1
    injection e with e
    right
    rw [e]
    unfold sliced
    split
    · exact ⟨_, _, _, rfl⟩
    · exact ⟨_, _, _, rfl⟩

theorem zero4 (w : World) : (zeroValue 4).run Tryz.prog w = .ok (.bool false) w := by kernel_rfl

theorem zeroCells_bool (n : Nat) : (Builtin.zeroCells (Value.bool false).cells n).toList = List.replicate n (Value.bool false) := by
  apply List.ext_getElem
  · simp [Builtin.zeroCells, Value.cells]
  · intro i h1 h2
    simp [Builtin.zeroCells, Value.cells, Nat.mod_one]

theorem clear_from {B n : Nat} {v : Value} {fs : List Bool} {w : World} (h0 : w.ownsRow B 4 1 v n (BB fs)) (k : Nat) (hk : k ≤ n) :
    ∃ rv, (∀ wx : World, (Instr.slice 107 v (some (.int .i64 k)) none none).run Tryz.prog wx = .ok rv wx) ∧
      (∀ (wx : World) (ty : TypeId), wx.ownsRow B 4 1 v n (BB fs) → ∃ w', (Builtin.clear_ #[107] ty #[rv]).run Tryz.prog wx = .ok (.tuple #[]) w' ∧ w'.ownsRow B 4 1 v n (BB (fs.take k ++ List.replicate (n - k) false)) ∧ wx.grownBy w' v.ownBlock) := by
  have hl : fs.length = n := by have := h0.1; simp at this; omega
  rcases h0.2 with ⟨rfl, hz⟩ | ⟨g, cap, cur, rfl, hb, hg, hc, hm, hs, ht⟩
  · obtain rfl : k = 0 := by omega
    subst hz
    refine ⟨.slice none 0 0, fun wx => ?_, fun wx ty h => ⟨wx, ?_, by simpa using owns_nil wx B 4 1, ⟨rfl, rfl, rfl, Nat.le_refl _, fun _ _ _ => rfl⟩⟩⟩
    · rw [run_slice_l wx 107 none 0 0 Tryz.elem107 .i64 ((0 : Nat) : Int) (by omega) (by omega), size4]
      rfl
    · simp [Builtin.clear_, run_underlying Tryz.underlying107]
  · by_cases hkn : k = n
    · subst hkn
      refine ⟨sliced (some ⟨g, 0, none⟩) k k cap 1, fun wx => ?_, fun wx ty h => ⟨wx, ?_, ?_, ⟨rfl, rfl, rfl, Nat.le_refl _, fun _ _ _ => rfl⟩⟩⟩
      · rw [run_slice_l wx 107 (some ⟨g, 0, none⟩) k cap Tryz.elem107 .i64 k (by omega) (by omega), size4]
        rfl
      · simp only [sliced, Nat.sub_self]
        generalize (if cap = k then some (⟨g, 0, none⟩ : Addr) else (some (⟨g, 0, none⟩ : Addr)).map (·.add (k * 1))) = A
        cases A <;> simp [Builtin.clear_, run_underlying Tryz.underlying107]
      · rw [List.take_of_length_le (by omega), Nat.sub_self]
        simpa using h
    · refine ⟨.slice (some ⟨g, k, none⟩) (n - k) (cap - k), fun wx => ?_, fun wx ty h => ?_⟩
      · rw [run_slice_l wx 107 (some ⟨g, 0, none⟩) n cap Tryz.elem107 .i64 k (by omega) (by omega), size4]
        have : ¬ cap = k := by omega
        simp [sliced, add_lit, this]
      · rcases h.2 with ⟨h1, _⟩ | ⟨g', cap', cur', h1, hb', hg', hc', hm', hs', ht'⟩
        · cases h1
        · injection h1 with e1 e2 e3
          injection e1 with e1
          injection e1 with e1
          subst e1 e3
          have hst := run_storeCells_at (P := Tryz.prog) g k 4 (List.replicate (n - k) (Value.bool false)) 0 cur' wx hg' (by simp; omega) (by intro u hu; rw [List.eq_of_mem_replicate hu]; rfl)
          obtain ⟨Y, hY⟩ : ∃ Y, Y = (cur'.toList.take (k + 0) ++ List.replicate (n - k) (Value.bool false) ++ cur'.toList.drop (k + 0 + (List.replicate (n - k) (Value.bool false)).length)).toArray := ⟨_, rfl⟩
          rw [← hY] at hst
          refine ⟨wx.setRow g Y, ?_, ⟨?_, .inr ⟨g, cap, Y, rfl, hb', setRow_heap wx g cur' _ 4 _ hg', hc', hm', ?_, ?_⟩⟩, ⟨rfl, rfl, rfl, by simp, fun j hj hne => setRow_other _ _ _ _ (fun e => hne (by rw [e]; rfl))⟩⟩
          · have hnz : ¬ n - k = 0 := by omega
            obtain ⟨m, hm2⟩ : ∃ m, n - k = m + 1 := ⟨n - k - 1, by omega⟩
            rw [hm2] at hst ⊢
            simp only [Builtin.clear_, List.getElem?_toArray, List.getElem?_cons_zero, Sem.run_bind, run_underlying Tryz.underlying107, Result.andThen, zero4, zeroCells_bool, hst, Sem.run_pure]
          · simp [hl]; omega
          · rw [hY]; simp; omega
          · rw [hY]
            simp only [List.length_replicate, Nat.add_zero]
            have hc2 : n ≤ cur'.toList.length := by simp; omega
            have e1 : cur'.toList.take k = (BB fs).take k := by
              have : (cur'.toList.take (n * 1)).take k = (BB fs).take k := by rw [ht']
              rwa [List.take_take, Nat.min_eq_left (by omega)] at this
            have e2 : cur'.toList.take k ++ List.replicate (n - k) (Value.bool false) = BB (fs.take k ++ List.replicate (n - k) false) := by
              rw [e1]
              simp [BB, List.map_take]
            rw [e2, List.take_left' (by simp [hl]; omega)]

theorem wpList_clear (w : World) {ops : Array Oper} {rest : List Oper} {o : Oper} {a : Act} {Q : Exit → Act → World → Prop} (hgd : o.guard = none) (x : Operand)
    (ho : o.op = .call { callee := .builtin .clear, args := #[x], argTypes := #[107] }) (rv : Value) (hx : a.eval x = rv) (R : World → Prop) (hr : ∀ ty, ∃ w', (Builtin.clear_ #[107] ty #[rv]).run Tryz.prog w = .ok (.tuple #[]) w' ∧ R w')
    (h : ∀ w', Hid (R w') → wpList Tryz.prog ops Q rest (a.put o.dst (.tuple #[])) w') : wpList Tryz.prog ops Q (o :: rest) a w := by
  refine wpList_plain hgd fun K hK => ?_
  obtain ⟨w', hr, h2⟩ := hr o.type
  unfold Oper.wp execOp
  simp only [ho, resolve, invoke, builtin, Sem.run_bind, Sem.run_pure, Result.andThen_ok, List.map_toArray, List.map_cons, List.map_nil, hx, hr]
  exact hK _ _ (h w' (hid h2))

end Go.Proofs.YtlmompdfombgeaaGreat
