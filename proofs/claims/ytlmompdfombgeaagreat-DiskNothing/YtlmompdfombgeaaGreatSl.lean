import Derived.Test.YtlmompdfombgeaaGreatBase
namespace Go.Proofs.YtlmompdfombgeaaGreat
open Go.RowKit

/-- v is a slice whose elements are the bytes bs. -/
def Sl (w : World) (v : Value) (bs : List Int) : Prop :=
  ∃ ao cap, v = .slice ao bs.length cap ∧ bs.length ≤ cap ∧ (bs ≠ [] → ∃ b off, ao = some ⟨b, off, none⟩ ∧ ∀ j x, bs[j]? = some x → w.cell? ⟨b, off + j, none⟩ = some (.int .u8 x))

theorem add_lit (b off j : Nat) : (⟨b, off, none⟩ : Addr).add j = ⟨b, off + j, none⟩ := by
  unfold Addr.add; split <;> simp_all

theorem sl_of_owns {w : World} {B : Nat} {v : Value} {bs : List Int} {n : Nat} (h : w.ownsRow B 5 1 v n (B8 bs)) : Sl w v bs := by
  have hl : n = bs.length := by have := h.1; simp at this; omega
  subst hl
  rcases h.2 with ⟨rfl, h0⟩ | ⟨g, cap, cur, rfl, hb, hg, hc, _, hs, ht⟩
  · have : bs = [] := List.eq_nil_of_length_eq_zero h0
    subst this
    exact ⟨none, 0, rfl, Nat.le_refl _, fun h => absurd rfl h⟩
  · refine ⟨_, cap, rfl, hc, fun _ => ⟨g, 0, rfl, ?_⟩⟩
    intro j x hx
    have := h.cells (g := g) rfl j (.int .u8 x) (by simp [B8, hx])
    rwa [add_lit] at this

theorem Sl.kept {w w' : World} {v : Value} {bs : List Int} {S : Nat → Prop} (h : Sl w v bs) (hk : Kept S w w') (hn : ∀ k, v.ownBlock = some k → ¬ S k) : Sl w' v bs := by
  obtain ⟨ao, cap, rfl, hc, hx⟩ := h
  refine ⟨ao, cap, rfl, hc, fun hne => ?_⟩
  obtain ⟨b, off, rfl, hj⟩ := hx hne
  exact ⟨b, off, rfl, fun j x e => hk.cell (hj j x e) (hn b rfl)⟩

theorem Sl.below {w w' : World} {v : Value} {bs : List Int} (h : Sl w v bs) (hk : Below w.heap.size w w') : Sl w' v bs :=
  h.kept (Kept.ofBelow hk) (fun _ _ h => h)

/-- A slice of its own, whole in block g. -/
def Own (w : World) (g : Nat) (bs : List Int) : Prop := w.heap[g]? = some (.cells (B8 bs).toArray 5 (0, 0))

theorem Own.owns {w : World} {g : Nat} {bs : List Int} {B : Nat} (h : Own w g bs) (hB : B ≤ g) (hl : bs.length ≤ maxLen) : w.ownsRow B 5 1 (.slice (some ⟨g, 0, none⟩) bs.length bs.length) bs.length (B8 bs) := by
  refine ⟨by simp, .inr ⟨g, bs.length, _, rfl, hB, h, Nat.le_refl _, hl, by simp, ?_⟩⟩
  rw [List.take_of_length_le (by simp)]

theorem madeCells_bytes (n : Nat) : (madeCells (Value.int .u8 0).cells (n * 1)).toList.length = n := by
  simp [madeCells, Value.cells]

set_option maxRecDepth 100000 in
set_option maxHeartbeats 800000 in
theorem copied_any (v : Value) (bs : List Int) (w : World) (h : Sl w v bs) (hl : bs.length ≤ 1000000000) :
    Calls Tryz.prog 71 #[v] w fun x w' => x = .returned (.slice (some ⟨w.heap.size, 0, none⟩) bs.length bs.length) ∧ Own w' w.heap.size bs ∧ Below w.heap.size w w' := by
  obtain ⟨i0, hi, hz0, hz1, hz2⟩ := info_parts Tryz.info5
  obtain ⟨ao, cap, rfl, hc, hx⟩ := h
  have hsz : (Tryz.prog.info? 5).map (·.size) = some 1 := by rw [hi]; simp [hz1]
  have Hx : Hid _ := hx
  clear hx
  go_enter Tryz.func71, Tryz.ntmps71
  go_wp2_with (at_make; refine wpList_make_full _ rfl _ _ 35 rfl w.heap.size 5 i0 (.int .u8 0) 1 Tryz.underlying35 hi hz0 hz1 _ _ _ _ bs.length rfl rfl rfl rfl (by rw [hz2]; omega) (by unfold maxLen; omega) (Nat.le_refl _) ?_)
  intro w1 ho hg
  have hbel : Below w.heap.size w w1 := (Below.refl _ _).grown hg (Nat.le_refl _) (by intro k hk; cases hk)
  have hrow : ∃ cur : List Value, w1.heap[w.heap.size]? = some (.cells cur.toArray 5 (0, 0)) ∧ cur.length = bs.length := by
    rcases ho.2 with ⟨h1, _⟩ | ⟨g, cp, cur, h1, _, h2, _, _, h3, _⟩
    · cases h1
    · simp at h1
      obtain ⟨rfl, rfl⟩ := h1
      exact ⟨cur.toList, by simpa using h2, by simpa using h3⟩
  obtain ⟨cur, hcur, hcl⟩ := hrow
  have Hl : Hid _ := hcl
  clear ho hg hcl
  go_wp2_with (refine wpList_copy_splice (by rfl) (.tmp 7) (.tmp 8) 35 35 rfl 5 Tryz.underlying35 hsz _ _ _ _ _ _ rfl rfl w.heap.size 0 cur 5 hcur (B8 bs) (by simp) ?hpos (by rw [Hl.out]; simp) (by intro u hu; obtain ⟨_, _, rfl⟩ := List.mem_map.1 hu; rfl) w.heap.size w hbel (Nat.le_refl _) ?_)
  case hpos =>
    intro hp
    have hne : bs ≠ [] := by intro e; subst e; simp at hp
    obtain ⟨b, off, rfl, hj⟩ := Hx.out hne
    refine ⟨_, rfl, ?_⟩
    intro j u hu
    rw [add_lit]
    have := hj j u hu
    exact (hbel.cell (World.block_lt_of_cell? _ _ this)).trans this
  intro w2 hg2 hb2
  go_wp2
  go_ret
  refine ⟨rfl, ?_, hb2⟩
  have := hg2.out
  unfold Own
  rw [this]
  congr 3
  have := Hl.out
  simp [splice]
  omega

end Go.Proofs.YtlmompdfombgeaaGreat
