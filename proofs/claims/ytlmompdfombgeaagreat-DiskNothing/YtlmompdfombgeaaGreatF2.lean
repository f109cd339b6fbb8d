import Derived.Test.YtlmompdfombgeaaGreatF1
namespace Go.Proofs.YtlmompdfombgeaaGreat
open Go.RowKit

/-- A file at block p. -/
structure FileAt (w : World) (B p : Nat) (safe : List Int) (pend : List Value) (data : List Int) (fresh : List Bool) (peak : Int) (vs vp vd vf : Value) : Prop where
  blk : w.heap[p]? = some (.cells #[vs, vp, vd, vf, .int .i64 peak] 112 (0, 0))
  os : w.ownsRow B 5 1 vs safe.length (B8 safe)
  op : w.ownsRow B 171 1 vp pend.length pend
  od : w.ownsRow B 5 1 vd data.length (B8 data)
  of : w.ownsRow B 4 1 vf fresh.length (BB fresh)
  sep : ∀ k, vs.ownBlock = some k → vd.ownBlock ≠ some k

theorem OwnB.owns {w : World} {g : Nat} {bs : List Bool} {B : Nat} (h : OwnB w g bs) (hB : B ≤ g) (hl : bs.length ≤ maxLen) : w.ownsRow B 4 1 (.slice (some ⟨g, 0, none⟩) bs.length bs.length) bs.length (BB bs) := by
  refine ⟨by simp, .inr ⟨g, bs.length, _, rfl, hB, h, Nat.le_refl _, hl, by simp, ?_⟩⟩
  rw [List.take_of_length_le (by simp)]

theorem owns_base {w : World} {B B' : Nat} {e : TypeId} {size : Nat} {v : Value} {n : Nat} {xs : List Value} (h : w.ownsRow B e size v n xs) (hB : B' ≤ B) : w.ownsRow B' e size v n xs := by
  refine ⟨h.1, ?_⟩
  rcases h.2 with hn' | ⟨g, cap, cur, rfl, hb, rest⟩
  · exact .inl hn'
  · exact .inr ⟨g, cap, cur, rfl, by omega, rest⟩

theorem FileAt.base {w : World} {B B' p : Nat} {safe : List Int} {pend : List Value} {data : List Int} {fresh : List Bool} {peak : Int} {vs vp vd vf : Value} (h : FileAt w B p safe pend data fresh peak vs vp vd vf) (hB : B' ≤ B) : FileAt w B' p safe pend data fresh peak vs vp vd vf :=
  ⟨h.blk, owns_base h.os hB, owns_base h.op hB, owns_base h.od hB, owns_base h.of hB, h.sep⟩

theorem FileAt.kept {w w' : World} {S : Nat → Prop} {B p : Nat} {safe : List Int} {pend : List Value} {data : List Int} {fresh : List Bool} {peak : Int} {vs vp vd vf : Value} (h : FileAt w B p safe pend data fresh peak vs vp vd vf) (hk : Kept S w w')
    (h0 : ¬ S p) (h1 : ∀ k, vs.ownBlock = some k → ¬ S k) (h2 : ∀ k, vp.ownBlock = some k → ¬ S k) (h3 : ∀ k, vd.ownBlock = some k → ¬ S k) (h4 : ∀ k, vf.ownBlock = some k → ¬ S k) : FileAt w' B p safe pend data fresh peak vs vp vd vf :=
  ⟨hp_kept h.blk hk h0, ownsRow_kept h.os hk h1, ownsRow_kept h.op hk h2, ownsRow_kept h.od hk h3, ownsRow_kept h.of hk h4, h.sep⟩

theorem FileAt.below {w w' : World} {B p : Nat} {safe : List Int} {pend : List Value} {data : List Int} {fresh : List Bool} {peak : Int} {vs vp vd vf : Value} (h : FileAt w B p safe pend data fresh peak vs vp vd vf) (hk : Below w.heap.size w w') : FileAt w' B p safe pend data fresh peak vs vp vd vf :=
  h.kept (Kept.ofBelow hk) (fun h => h) (fun _ _ h => h) (fun _ _ h => h) (fun _ _ h => h) (fun _ _ h => h)

theorem owns_nil (w : World) (B : Nat) (e : TypeId) (size : Nat) : w.ownsRow B e size (.slice none 0 0) 0 [] := ⟨by simp, .inl ⟨rfl, rfl⟩⟩

set_option maxRecDepth 100000 in
set_option maxHeartbeats 800000 in
theorem newFile_any (v : Value) (bs : List Int) (w : World) (h : Sl w v bs) (hl : bs.length ≤ 1000000000) :
    Calls Tryz.prog 121 #[v] w fun x w' => ∃ p vs vd vf, x = .returned (.pointer (some ⟨p, 0, none⟩)) ∧ w.heap.size ≤ p ∧ FileAt w' w.heap.size p bs [] bs (List.replicate bs.length false) bs.length vs (.slice none 0 0) vd vf ∧ Below w.heap.size w w' := by
  have HS := hid h
  obtain ⟨ao, cap, rfl, hc, hx⟩ := h
  clear hx hc
  go_enter Tryz.func121, Tryz.ntmps121
  go_wp2_with (first
    | (go_at_call 71; refine (copied_any _ bs _ HS.out hl).mono ?_; rintro e w1 ⟨rfl, ho, hb⟩; have HO := hid ho; have HB := hid hb; clear ho hb)
    | (go_at_call 124; refine (safeRow_any _ bs _ (HS.out.below HB.out) hl).mono ?_; rintro e w2 ⟨A, B, rfl, hA, hB, g1, g2, g3, hb2⟩; have HA := hid (And.intro hA hB); have HG := hid (And.intro g1 (And.intro g2 g3)); have HB2 := hid hb2; clear hA hB hb2 g1 g2 g3))
  go_ret
  obtain ⟨hA, hB⟩ := HA.out
  obtain ⟨g1, g2, g3⟩ := HG.out
  have hb := HB.out
  have hb2 := HB2.out
  have ho := HO.out
  have hz := hb.size
  have hz2 := hb2.size
  have hol := hp_lt ho
  have hbel := hb.trans (hb2.mono hz)
  have hlm : bs.length ≤ maxLen := by unfold maxLen; omega
  have h1 := (show Own w2 w.heap.size bs from hp_below ho hb2 hol)
  refine ⟨w2.heap.size, _, _, _, rfl, by omega, ⟨hp_new _ _, ?_, owns_nil _ _ _ _, ?_, ?_, ?_⟩, hbel.alloc (by omega) _⟩
  · exact (show Own (w2.alloc _) w.heap.size bs from hp_alloc h1 _).owns (Nat.le_refl _) hlm
  · exact (show Own (w2.alloc _) A bs from hp_alloc hA _).owns (by omega) hlm
  · have := (show OwnB (w2.alloc (Obj.cells #[Value.slice (some ⟨w.heap.size, 0, none⟩) bs.length bs.length, Value.slice none 0 0, Value.slice (some ⟨A, 0, none⟩) bs.length bs.length, Value.slice (some ⟨B, 0, none⟩) bs.length bs.length, Value.int IntKind.i64 bs.length] 112)) B (List.replicate bs.length false) from hp_alloc hB _).owns (show w.heap.size ≤ B by omega) (by simpa using hlm)
    simpa using this
  · intro k hk
    simp [Value.ownBlock] at hk ⊢
    omega

end Go.Proofs.YtlmompdfombgeaaGreat
