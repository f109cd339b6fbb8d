import Derived.Test.YtlmompdfombgeabGreatK24
import Derived.Test.YtlmompdfombgeabGreatK12
namespace Go.Proofs.YtlmompdfombgeabGreat
open Go.RowKit Go.MapKept

theorem Tryz.elem91 : Tryz.prog.underlying 91 = some (.slice (Tryz.prog.elem 91)) := by kernel_rfl
theorem size110 (w : World) : (sizeOf (Tryz.prog.elem 91)).run Tryz.prog w = .ok 1 w := by kernel_rfl

/-- v[:k] of an owned row of changes. -/
theorem ownC_to {w : World} {B n : Nat} {v : Value} {xs : List Value} (h : w.ownsRow B 134 1 v n xs) (k : Nat) (hk : k ≤ n) :
    ∃ rv, (∀ wx : World, (Instr.slice 91 v none (some (.int .i64 k)) none).run Tryz.prog wx = .ok rv wx) ∧ w.ownsRow B 134 1 rv k (xs.take k) ∧ rv.ownBlock = v.ownBlock := by
  have hl : xs.length = n := by have := h.1; simp at this; omega
  rcases h.2 with ⟨rfl, h0⟩ | ⟨g, cap, cur, rfl, hb, hg, hc, hm, hs, ht⟩
  · obtain rfl : k = 0 := by omega
    refine ⟨.slice none 0 0, fun wx => ?_, by simpa using owns_nil w B 134 1, rfl⟩
    rw [run_slice_h wx 91 none 0 0 Tryz.elem91 .i64 ((0 : Nat) : Int) (by omega) (by omega), size110]
    rfl
  · refine ⟨.slice (some ⟨g, 0, none⟩) k cap, fun wx => ?_, ⟨by simp [hl]; omega, .inr ⟨g, cap, cur, rfl, hb, hg, by omega, hm, hs, ?_⟩⟩, rfl⟩
    · rw [run_slice_h wx 91 (some ⟨g, 0, none⟩) n cap Tryz.elem91 .i64 k (by omega) (by omega), size110]
      simp [sliced, add_lit]
    · have : (cur.toList.take (n * 1)).take (k * 1) = xs.take (k * 1) := by rw [ht]
      rw [List.take_take, Nat.min_eq_left (by omega)] at this
      rw [this]
      simp

theorem round_first (v : Int) (m : Nat) (w : World) (hv : I64 v) (hm : m ≤ 1000000) : Calls Tryz.prog 43 #[.int .i64 v, .int .i64 ((m : Int) + 1)] w fun x w' => x = .returned (.int .i64 (firstN v m)) ∧ w' = w := by
  refine (round_any v ((m : Int) + 1) w hv (by omega) (by omega)).mono ?_
  rintro x w' ⟨rfl, rfl⟩
  refine ⟨?_, rfl⟩
  unfold firstN
  have := Int.emod_nonneg v (show (m : Int) + 1 ≠ 0 by omega)
  rw [Int.toNat_of_nonneg this]

/-- The row that is being made. -/
structure RowAt (w : World) (B r : Nat) (vd vf : Value) (xs : List Int) (fs : List Bool) : Prop where
  blk : w.heap[r]? = some (.cells #[vd, vf] 94 (0, 0))
  od : w.ownsRow B 5 1 vd xs.length (B8 xs)
  of : w.ownsRow B 4 1 vf fs.length (BB fs)

theorem RowAt.kept {w w' : World} {B r : Nat} {vd vf : Value} {xs : List Int} {fs : List Bool} {S : Nat → Prop} (h : RowAt w B r vd vf xs fs) (hk : Kept S w w') (hS : ∀ k, B ≤ k → k < w.heap.size → ¬ S k) (hr : B ≤ r) : RowAt w' B r vd vf xs fs :=
  ⟨hp_kept h.blk hk (hS r hr (hp_lt h.blk)), ownsRow_kept h.od hk (fun k e => hS k (h.od.lt k e).1 (h.od.lt k e).2), ownsRow_kept h.of hk (fun k e => hS k (h.of.lt k e).1 (h.of.lt k e).2)⟩

theorem RowAt.below {w w' : World} {B r : Nat} {vd vf : Value} {xs : List Int} {fs : List Bool} (h : RowAt w B r vd vf xs fs) (hk : Below w.heap.size w w') (hr : B ≤ r) : RowAt w' B r vd vf xs fs := h.kept (Kept.ofBelow hk) (fun _ _ _ e => e) hr

/-- The row stored anew. -/
theorem RowAt.store {w w2 : World} {B r : Nat} {vd vf vd' vf' : Value} {xs xs' : List Int} {fs fs' : List Bool} (h : RowAt w B r vd vf xs fs) (hk : Kept (fun k => vd.ownBlock = some k ∨ vf.ownBlock = some k) w w2) (hd : w2.ownsRow B 5 1 vd' xs'.length (B8 xs')) (hf : w2.ownsRow B 4 1 vf' fs'.length (BB fs')) (hr : B ≤ r) :
    RowAt ((w2.setCell ⟨r, 0, none⟩ vd').setCell ⟨r, 1, none⟩ vf') B r vd' vf' xs' fs' ∧ w2.heap[r]? = some (.cells #[vd, vf] 94 (0, 0)) ∧ Kept (fun k => B ≤ k) w ((w2.setCell ⟨r, 0, none⟩ vd').setCell ⟨r, 1, none⟩ vf') := by
  have h2 : w2.heap[r]? = some (.cells #[vd, vf] 94 (0, 0)) := hp_kept h.blk hk (by
    rintro (e | e)
    · exact own_ne_blk h.od h.blk (by decide) e
    · exact own_ne_blk h.of h.blk (by decide) e)
  have K3 : Kept (fun k => k = r) w2 ((w2.setCell ⟨r, 0, none⟩ vd').setCell ⟨r, 1, none⟩ vf') := ((Kept.refl (fun k => k = r) w2).setCell (p := ⟨r, 0, none⟩) (fun _ => rfl) _).setCell (p := ⟨r, 1, none⟩) (fun _ => rfl) _
  refine ⟨⟨set_block (i := 1) (set_block (i := 0) h2 _) _, ?_, ?_⟩, h2, ?_⟩
  · exact ownsRow_kept hd K3 (fun k e e2 => by subst e2; exact own_ne_blk hd h2 (by decide) e)
  · exact ownsRow_kept hf K3 (fun k e e2 => by subst e2; exact own_ne_blk hf h2 (by decide) e)
  · refine (hk.mono (fun k _ e => ?_)).trans K3 (fun k _ e => by rw [e]; exact hr)
    rcases e with e | e
    · exact (h.od.lt k e).1
    · exact (h.of.lt k e).1

theorem rowC_take_succ (safe : List Int) (cs : List Chg) (k : Nat) (c : Chg) (h : cs[k]? = some c) : rowC safe (cs.take (k + 1)) = doC (rowC safe (cs.take k)) c := by
  rw [List.take_add_one, h]
  exact rowC_snoc _ _ _

/-- One change done to the row that is being made: bytes laid behind. -/
theorem doA_any (B r : Nat) (vd vf : Value) (xs : List Int) (fs : List Bool) (w : World) (sv : Value) (ys : List Int) (h : RowAt w B r vd vf xs fs) (hs : Sn w sv ys) (hl : fs.length = xs.length) (hB : B ≤ w.heap.size) (l1 : xs.length ≤ 10000000) (l2 : (doC (xs, fs) (.inl ys)).1.length ≤ 10000000) :
    Calls Tryz.prog 138 #[sv, .agg #[vd, vf]] w fun x w' => ∃ vd' vf', x = .returned (.agg #[vd', vf']) ∧ w'.ownsRow B 5 1 vd' (doC (xs, fs) (.inl ys)).1.length (B8 (doC (xs, fs) (.inl ys)).1) ∧ w'.ownsRow B 4 1 vf' (doC (xs, fs) (.inl ys)).2.length (BB (doC (xs, fs) (.inl ys)).2) ∧ Kept (fun k => vd.ownBlock = some k ∨ vf.ownBlock = some k) w w' := by
  have hll : (doC (xs, fs) (.inl ys)).1.length = xs.length + ys.length := by show (xs ++ ys).length = _; simp
  refine (doApp_any B sv vd vf ys xs fs w hs h.od h.of hB (by omega) (by omega) (by omega)).mono ?_
  rintro x w' ⟨vd', vf', rfl, a, b, _, _, k⟩
  exact ⟨vd', vf', rfl, a, b, k⟩

/-- A cut. -/
theorem doB_any (B r : Nat) (vd vf : Value) (xs : List Int) (fs : List Bool) (w : World) (m : Nat) (h : RowAt w B r vd vf xs fs) (hm : m ≤ xs.length) (hl : fs.length = xs.length) (l1 : xs.length ≤ 10000000) :
    Calls Tryz.prog 139 #[.int .i64 m, .agg #[vd, vf]] w fun x w' => ∃ vd' vf', x = .returned (.agg #[vd', vf']) ∧ w'.ownsRow B 5 1 vd' (doC (xs, fs) (.inr m)).1.length (B8 (doC (xs, fs) (.inr m)).1) ∧ w'.ownsRow B 4 1 vf' (doC (xs, fs) (.inr m)).2.length (BB (doC (xs, fs) (.inr m)).2) ∧ Kept (fun k => vd.ownBlock = some k ∨ vf.ownBlock = some k) w w' := by
  refine (doCut_any B m vd vf xs fs w h.od h.of hm (by omega) (by omega)).mono ?_
  rintro x w' ⟨vd', vf', rfl, a, b, _, _, k⟩
  have e1 : (doC (xs, fs) (.inr m)).1.length = m := by show (xs.take m).length = m; rw [List.length_take]; omega
  have e2 : (doC (xs, fs) (.inr m)).2.length = m := by show (fs.take m).length = m; rw [List.length_take]; omega
  rw [e1, e2]
  exact ⟨vd', vf', rfl, a, b, (Kept.ofBelow k).mono (fun _ _ e => e.elim)⟩

theorem round_secs (v : Int) (n : Nat) (w : World) (hv : I64 v) (h0 : 0 < n) (h1 : n ≤ 100000000) : Calls Tryz.prog 43 #[.int .i64 v, .int .i64 (((n : Int) + 16 - 1) / 16)] w fun x w' => x = .returned (.int .i64 ((v % (secs n : Int)).toNat : Nat)) ∧ w' = w := by
  have e : (((n : Int) + 16 - 1) / 16) = (secs n : Int) := by unfold secs; omega
  have hp : (0 : Int) < (secs n : Int) := by unfold secs; omega
  rw [e]
  refine (round_any v (secs n) w hv hp (by unfold secs; omega)).mono ?_
  rintro x w' ⟨rfl, rfl⟩
  refine ⟨?_, rfl⟩
  rw [Int.toNat_of_nonneg (Int.emod_nonneg v (by omega))]

theorem secs_lt (v : Int) (n : Nat) (h0 : 0 < n) : 16 * (v % (secs n : Int)).toNat ≤ n := by
  have hp : (0 : Int) < (secs n : Int) := by unfold secs; omega
  have h1 := Int.emod_lt_of_pos v hp
  have h2 := Int.emod_nonneg v (show (secs n : Int) ≠ 0 by omega)
  have : (v % (secs n : Int)).toNat < secs n := by omega
  unfold secs at this ⊢
  omega

theorem loseAll_succ (fs : List Bool) (lost : List Int) (j : Nat) (v : Int) (h : lost[j]? = some v) (xs : List Int) : loseAll fs (lost.take (j + 1)) xs = loseS fs (loseAll fs (lost.take j) xs) (v % (secs xs.length : Int)).toNat := by
  rw [List.take_add_one, h]
  have e : loseAll fs (lost.take j ++ [v]) xs = loseS fs (loseAll fs (lost.take j) xs) (v % (secs (loseAll fs (lost.take j) xs).length : Int)).toNat := by
    unfold loseAll
    rw [List.foldl_append]
    rfl
  rw [loseAll_len] at e
  exact e

end Go.Proofs.YtlmompdfombgeabGreat
