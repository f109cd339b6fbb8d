import Derived.Test.YtlmompdfombgeaaGreatSl
import Derived.Laws.BytesArg
namespace Go.Proofs.YtlmompdfombgeaaGreat
open Go.RowKit

theorem Tryz.elem35 : Tryz.prog.underlying 35 = some (.slice (Tryz.prog.elem 35)) := by kernel_rfl
theorem Tryz.elemIs : Tryz.prog.elem 35 = 5 := by kernel_rfl
theorem size5 (w : World) : (sizeOf (Tryz.prog.elem 35)).run Tryz.prog w = .ok 1 w := by
  obtain ⟨i0, hi, hz0, hz1, hz2⟩ := info_parts Tryz.info5
  rw [Tryz.elemIs]
  simp [sizeOf, typeInfo, hi, hz1]

theorem sl_sliced {w : World} {ao : Option Addr} {bs : List Int} {cap : Nat} (hc : bs.length ≤ cap) (hx : bs ≠ [] → ∃ b off, ao = some ⟨b, off, none⟩ ∧ ∀ j x, bs[j]? = some x → w.cell? ⟨b, off + j, none⟩ = some (.int .u8 x))
    (lo hi : Nat) (h1 : lo ≤ hi) (h2 : hi ≤ bs.length) : Sl w (sliced ao lo hi cap 1) ((bs.drop lo).take (hi - lo)) := by
  have hl : ((bs.drop lo).take (hi - lo)).length = hi - lo := by simp; omega
  refine ⟨(if cap = lo then ao else ao.map (·.add (lo * 1))), cap - lo, by rw [hl]; rfl, by rw [hl]; omega, ?_⟩
  intro hne
  have hlt : lo < hi := by
    rcases Nat.lt_or_ge lo hi with h | h
    · exact h
    · exfalso; apply hne; apply List.eq_nil_of_length_eq_zero; rw [hl]; omega
  obtain ⟨b, off, rfl, hj⟩ := hx (by intro e; subst e; simp at h2; omega)
  refine ⟨b, off + lo, ?_, ?_⟩
  · rw [if_neg (by omega)]; simp [add_lit]
  · intro j x hx2
    rw [List.getElem?_take] at hx2
    split at hx2
    · rw [List.getElem?_drop] at hx2
      rw [Nat.add_assoc]
      exact hj (lo + j) x hx2
    · cases hx2

theorem sliced_own (ao : Option Addr) (n cap lo hi c : Nat) : ∀ k, (sliced ao lo hi cap 1).ownBlock = some k → (Value.slice ao n c).ownBlock = some k := by
  intro k hk
  cases ao with
  | none => unfold sliced at hk; split at hk <;> simp [Value.ownBlock] at hk
  | some a =>
    unfold sliced at hk
    split at hk
    · simpa [Value.ownBlock] using hk
    · simp only [Option.map_some, Value.ownBlock] at hk ⊢
      rw [← hk]
      unfold Addr.add
      split <;> rfl

theorem sl_from {w : World} {v : Value} {bs : List Int} (h : Sl w v bs) (lo : Nat) (h1 : lo ≤ bs.length) :
    ∃ rv, (∀ wx : World, (Instr.slice 35 v (some (.int .i64 lo)) none none).run Tryz.prog wx = .ok rv wx) ∧ Sl w rv (bs.drop lo) ∧ (∀ k, rv.ownBlock = some k → v.ownBlock = some k) := by
  obtain ⟨ao, cap, rfl, hc, hx⟩ := h
  refine ⟨sliced ao lo bs.length cap 1, ?_, ?_, sliced_own ao _ cap lo _ _⟩
  · intro wx
    rw [run_slice_l wx 35 ao bs.length cap Tryz.elem35 .i64 lo (by omega) (by omega), size5]
    rfl
  · have := sl_sliced hc hx lo bs.length h1 (Nat.le_refl _)
    rwa [List.take_of_length_le (by simp)] at this

theorem sl_part {w : World} {v : Value} {bs : List Int} (h : Sl w v bs) (lo hi : Nat) (h1 : lo ≤ hi) (h2 : hi ≤ bs.length) :
    ∃ rv, (∀ wx : World, (Instr.slice 35 v (some (.int .i64 lo)) (some (.int .i64 hi)) none).run Tryz.prog wx = .ok rv wx) ∧ Sl w rv ((bs.drop lo).take (hi - lo)) ∧ (∀ k, rv.ownBlock = some k → v.ownBlock = some k) := by
  obtain ⟨ao, cap, rfl, hc, hx⟩ := h
  refine ⟨sliced ao lo hi cap 1, ?_, sl_sliced hc hx lo hi h1 h2, sliced_own ao _ cap lo _ _⟩
  intro wx
  rw [run_slice_lh wx 35 ao bs.length cap Tryz.elem35 .i64 .i64 lo hi (by omega) (by omega) (by omega), size5]
  rfl

theorem sl_to {w : World} {v : Value} {bs : List Int} (h : Sl w v bs) (hi : Nat) (h2 : hi ≤ bs.length) :
    ∃ rv, (∀ wx : World, (Instr.slice 35 v none (some (.int .i64 hi)) none).run Tryz.prog wx = .ok rv wx) ∧ Sl w rv (bs.take hi) ∧ (∀ k, rv.ownBlock = some k → v.ownBlock = some k) := by
  obtain ⟨ao, cap, rfl, hc, hx⟩ := h
  refine ⟨sliced ao 0 hi cap 1, ?_, ?_, sliced_own ao _ cap 0 _ _⟩
  · intro wx
    rw [run_slice_h wx 35 ao bs.length cap Tryz.elem35 .i64 hi (by omega) (by omega), size5]
    rfl
  · have := sl_sliced hc hx 0 hi (Nat.zero_le _) h2
    simpa using this

/-- A text of these bytes. -/
def mkStr (l : List Int) : ByteArray := ⟨(l.map fun x => UInt8.ofNat x.toNat).toArray⟩

theorem sl_string {w : World} {v : Value} {bs : List Int} (h : Sl w v bs) : (convert 35 9 v).run Tryz.prog w = .ok (.string (mkStr bs)) w := by
  obtain ⟨ao, cap, rfl, hc, hx⟩ := h
  rw [run_convert_bytes_string w 35 9 5 ao _ cap Tryz.underlying35 Tryz.underlying5 Tryz.underlying9]
  by_cases hne : bs = []
  · subst hne
    cases ao with
    | none => rfl
    | some a =>
      have := run_bytesToString (P := Tryz.prog) w a 0 cap [] (by
        have := run_loadCells_list (P := Tryz.prog) w a [] (by intro j v h; cases h)
        simpa using this)
      exact this
  · obtain ⟨b, off, rfl, hj⟩ := hx hne
    have h1 := run_loadCells_list (P := Tryz.prog) w ⟨b, off, none⟩ (B8 bs) (by
      intro j v hv
      rw [List.getElem?_map, Option.map_eq_some_iff] at hv
      obtain ⟨x, hx1, rfl⟩ := hv
      rw [add_lit]
      exact hj j x hx1)
    simp only [List.length_map] at h1
    rw [run_bytesToString w ⟨b, off, none⟩ _ cap bs h1, foldl_push_bytes]
    simp [mkStr]

theorem Sl.drewN {w : World} {v : Value} {bs : List Int} (h : Sl w v bs) (n : Nat) : Sl (w.drewN n) v bs := by
  obtain ⟨ao, cap, rfl, hc, hx⟩ := h
  refine ⟨ao, cap, rfl, hc, fun hne => ?_⟩
  obtain ⟨b, off, rfl, hj⟩ := hx hne
  exact ⟨b, off, rfl, fun j x e => by simpa using hj j x e⟩

end Go.Proofs.YtlmompdfombgeaaGreat
