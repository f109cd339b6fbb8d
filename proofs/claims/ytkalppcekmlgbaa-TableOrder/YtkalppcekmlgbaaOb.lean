import Derived.Test.YtkalppcekmlgbaaOa
import Derived.Test.YtkalppcekmlgbaaRc22
namespace Go.Proofs.Ytkalppcekmlgbaa
open Go.RowKit

theorem Try.info9 : (Try.prog.info? 9).map (fun i => (i.zero, i.size, i.bytes)) = some (some (.string ⟨#[]⟩), 1, 16) := by kernel_rfl

/-- What is fixed in one call of TableOrder, behind the puts. -/
structure Ok where
  w0 : World
  p : Nat
  kb : Nat
  S : Nat
  Z : Nat
  g1 : Nat
  g2 : Nat
  g3 : Nat
  T : Tr
  kv : Value
  ks : List ByteArray

/-- The boxes. -/
structure Ox (kb S : Nat) (kv : Value) (w : World) (lv : Value) (n : Int) (ls : ByteArray) : Prop where
  bk : w.heap[kb]? = some (.cells #[kv] 55 (0, 0))
  bl : Bx w S ls
  bn : w.heap[S + 1]? = some (.cells #[.int .i64 n] 3 (0, 0))
  bo : w.heap[S + 2]? = some (.cells #[.bool true] 4 (0, 0))
  bv : w.heap[S + 3]? = some (.cells #[lv] 55 (0, 0))

theorem Ox.kept {kb S : Nat} {kv : Value} {w w' : World} {lv : Value} {n : Int} {ls : ByteArray} {Q : Nat → Prop} (h : Ox kb S kv w lv n ls) (hk : Kept Q w w') (h0 : ¬ Q kb) (hq : ∀ j, S ≤ j → j ≤ S + 3 → ¬ Q j) : Ox kb S kv w' lv n ls :=
  ⟨hp_kept h.bk hk h0, hp_kept h.bl hk (hq _ (by omega) (by omega)), hp_kept h.bn hk (hq _ (by omega) (by omega)), hp_kept h.bo hk (hq _ (by omega) (by omega)), hp_kept h.bv hk (hq _ (by omega) (by omega))⟩

/-- Behind the three stores, with the row that is added. -/
abbrev ordW (w : World) (S n : Nat) (k : ByteArray) : World := (((w.setCell ⟨S + 2, 0, none⟩ (.bool true)).setCell ⟨S, 0, none⟩ (.string k)).setCell ⟨S + 1, 0, none⟩ (.int .i64 ((n : Int) + 1))).alloc (.cells #[.string k] 9)

def OrdP (w : World) (B kb S : Nat) (kv lv : Value) (n : Nat) (k : ByteArray) (xs : List Value) : Ending → World → Prop := fun e w' => e = .returned (.bool true) ∧ ∃ lv', Ox kb S kv w' lv' ((n : Int) + 1) k ∧ w'.ownsRow B 9 1 lv' (n + 1) (xs ++ [.string k]) ∧ Kept (fun j => (S ≤ j ∧ j ≤ S + 3) ∨ lv.ownBlock = some j) w w' ∧ (lv'.ownBlock = lv.ownBlock ∨ lv'.ownBlock = some (w.heap.size + 1))

/-- Behind the append. -/
structure OrdA (w w2 : World) (B kb S : Nat) (kv lv lv' : Value) (n : Nat) (k : ByteArray) (xs : List Value) : Prop where
  ox : Ox kb S kv w2 lv ((n : Int) + 1) k
  ow : w2.ownsRow B 9 1 lv' (n + 1) (xs ++ [.string k])
  kp : Kept (fun j => (S ≤ j ∧ j ≤ S + 3) ∨ lv.ownBlock = some j) w w2
  nw : lv'.ownBlock = lv.ownBlock ∨ lv'.ownBlock = some (w.heap.size + 1)

theorem ordW_size (w : World) (S n : Nat) (k : ByteArray) : (ordW w S n k).heap.size = w.heap.size + 1 := by simp [ordW, World.setCell]
theorem ordW_kept (w : World) (S n : Nat) (k : ByteArray) : Kept (fun j => S ≤ j ∧ j ≤ S + 2) w (ordW w S n k) :=
  ((((Kept.refl (fun j => S ≤ j ∧ j ≤ S + 2) w).setCell (p := ⟨S + 2, 0, none⟩) (fun _ => (show S ≤ S + 2 ∧ S + 2 ≤ S + 2 by omega)) _).setCell (p := ⟨S, 0, none⟩) (fun _ => (show S ≤ S ∧ S ≤ S + 2 by omega)) _).setCell (p := ⟨S + 1, 0, none⟩) (fun _ => (show S ≤ S + 1 ∧ S + 1 ≤ S + 2 by omega)) _).alloc _

theorem ordW_ox {w : World} {kb S n : Nat} {kv lv : Value} {ls k : ByteArray} (h : Ox kb S kv w lv n ls) (hk : kb < S) : Ox kb S kv (ordW w S n k) lv ((n : Int) + 1) k := by
  have K := ordW_kept w S n k
  refine ⟨hp_kept h.bk K (by omega), ?_, ?_, ?_, hp_kept h.bv K (by omega)⟩
  · exact hp_alloc (hp_set (set_block (i := 0) (hp_set h.bl (by simp) _) _) (by simp) _) _
  · exact hp_alloc (set_block (i := 0) (hp_set (hp_set h.bn (by simp) _) (by simp) _) _) _
  · exact hp_alloc (hp_set (hp_set (set_block (i := 0) h.bo _) (by simp) _) (by simp) _) _

theorem ordA_of {w w2 : World} {B kb S n : Nat} {kv lv lv' : Value} {ls k : ByteArray} {xs : List Value} (h : Ox kb S kv w lv n ls) (hk : kb < S) (hl : ∀ j, lv.ownBlock = some j → j ≠ kb ∧ (j < S ∨ S + 3 < j))
    (h2 : w2.ownsRow B 9 1 lv' (n + 1) (xs ++ [.string k])) (hg : (ordW w S n k).grownBy w2 lv.ownBlock) (hn : lv'.ownBlock = lv.ownBlock ∨ lv'.ownBlock = some (ordW w S n k).heap.size) : OrdA w w2 B kb S kv lv lv' n k xs := by
  have K2 : Kept (fun j => lv.ownBlock = some j) (ordW w S n k) w2 := (Kept.refl (fun j => lv.ownBlock = some j) _).grown hg (fun j _ e => e)
  refine ⟨(ordW_ox h hk).kept K2 (fun e => (hl _ e).1 rfl) (fun j h1 h2 e => by have := (hl _ e).2; omega), h2, ((ordW_kept w S n k).mono (fun j _ e => .inl (by omega))).trans K2 (fun j _ e => .inr e), ?_⟩
  rw [ordW_size] at hn
  exact hn

theorem ord_fin {w w2 : World} {B kb S n : Nat} {kv lv lv' : Value} {k : ByteArray} {xs : List Value} (h : OrdA w w2 B kb S kv lv lv' n k xs) (hk : kb < S) (hl : ∀ j, lv.ownBlock = some j → j ≠ kb ∧ (j < S ∨ S + 3 < j)) (hz : S + 3 < w.heap.size) : OrdP w B kb S kv lv n k xs (.returned (.bool true)) (w2.setCell ⟨S + 3, 0, none⟩ lv') := by
  have K : Kept (fun j => j = S + 3) w2 (w2.setCell ⟨S + 3, 0, none⟩ lv') := (Kept.refl (fun j => j = S + 3) w2).setCell (p := ⟨S + 3, 0, none⟩) (fun _ => rfl) _
  refine ⟨rfl, lv', ⟨hp_kept h.ox.bk K (by omega), hp_kept h.ox.bl K (by omega), hp_kept h.ox.bn K (by omega), hp_kept h.ox.bo K (by omega), set_block (i := 0) h.ox.bv _⟩, ownsRow_kept h.ow K (fun j hj e => ?_), h.kp.trans K (fun j _ e => .inl (by omega)), h.nw⟩
  subst e
  rcases h.nw with h1 | h1
  · have := (hl _ (h1 ▸ hj)).2; omega
  · rw [hj] at h1; injection h1 with h1; omega

theorem rf_str (w : World) (k : ByteArray) : Rf (w.alloc (.cells #[.string k] 9)) 1 (.slice (some ⟨w.heap.size, 0, none⟩) 1 1) 1 [.string k] := by
  refine ⟨rfl, fun u hu => by simp at hu; subst hu; rfl, .inr ⟨_, _, rfl, Nat.le_refl _, by unfold maxLen; omega, fun j u hu => ?_⟩⟩
  rw [add_lit]
  have hj : j = 0 := by
    rcases Nat.lt_or_ge j 1 with h | h
    · omega
    · rw [List.getElem?_eq_none (by simpa using h)] at hu; cases hu
  subst hj
  simp at hu
  subst hu
  exact cells1 (hp_new w _)

set_option maxRecDepth 100000 in
set_option maxHeartbeats 8000000 in
theorem ord1 (w : World) (B kb S n i : Nat) (kv lv : Value) (ls k : ByteArray) (ks : List ByteArray) (xs : List Value) (h : Ox kb S kv w lv n ls) (hk : kb < S) (hl : ∀ j, lv.ownBlock = some j → j ≠ kb ∧ (j < S ∨ S + 3 < j)) (hr : Rf w 1 kv ks.length (ks.map Value.string))
    (hi : ks[i]? = some k) (hls : 0 < n → kl ls k = true) (hn : n < 300) (ow : w.ownsRow B 9 1 lv n xs) (hB : B ≤ w.heap.size) :
    Calls Try.prog 22 #[.string k, .int .i64 i, .pointer (some ⟨S + 2, 0, none⟩), .pointer (some ⟨S + 1, 0, none⟩), .pointer (some ⟨S, 0, none⟩), .pointer (some ⟨kb, 0, none⟩), .pointer (some ⟨S + 3, 0, none⟩)] w (OrdP w B kb S kv lv n k xs) := by
  have hz : S + 3 < w.heap.size := hp_lt h.bv
  have hil : i < ks.length := by
    rcases Nat.lt_or_ge i ks.length with h1 | h1
    · exact h1
    · rw [List.getElem?_eq_none h1] at hi; cases hi
  obtain ⟨gb, off, cap, ekv, -, -, hcell⟩ := hr.lits (by omega) (by omega)
  have v0 := hcell i (.string k) (by rw [List.getElem?_map, hi]; rfl)
  subst ekv
  obtain ⟨ao0, c0, elv⟩ := own_shape ow
  have y0 := cells1 h.bk
  have y1 := cells1 h.bl
  have y2 := cells1 h.bn
  have y3 := cells1 h.bo
  have y4 := cells1 h.bv
  rw [elv] at y4
  have g0 : ∀ j, w.frozen? ⟨S, j, none⟩ = false := fun j => free_of_block h.bl
  have g1 : ∀ j, w.frozen? ⟨S + 1, j, none⟩ = false := fun j => free_of_block h.bn
  have g2 : ∀ j, w.frozen? ⟨S + 2, j, none⟩ = false := fun j => free_of_block h.bo
  have hnw : IntKind.i64.wrap ((n : Int) + 1) = (n : Int) + 1 := by rw [IntKind.wrap_i64]; omega
  have hi0 : (0 : Int) ≤ i := by omega
  have hi1 : (i : Int) < ks.length := by omega
  have hn3 : (n : Int) < 300 := by omega
  have hkk : (k.toList == k.toList) = true := by simp
  have AP := hid (show ∀ (w2 : World) (lv' : Value), w2.ownsRow B 9 1 lv' (n + 1) (xs ++ [.string k]) → (ordW w S n k).grownBy w2 lv.ownBlock → (lv'.ownBlock = lv.ownBlock ∨ lv'.ownBlock = some (ordW w S n k).heap.size) → OrdA w w2 B kb S (.slice (some ⟨gb, off, none⟩) ks.length cap) lv lv' n k xs from fun _ _ h2 hg hn => ordA_of h hk hl h2 hg hn)
  have FI := hid (show ∀ (w2 : World) (lv' : Value), OrdA w w2 B kb S (.slice (some ⟨gb, off, none⟩) ks.length cap) lv lv' n k xs → OrdP w B kb S (.slice (some ⟨gb, off, none⟩) ks.length cap) lv n k xs (.returned (.bool true)) (w2.setCell ⟨S + 3, 0, none⟩ lv') from fun _ _ h => ord_fin h hk hl hz)
  have OW := hid (show (ordW w S n k).ownsRow B 9 1 lv n xs from by
    refine ownsRow_kept ow (ordW_kept w S n k) (fun j hj e => ?_)
    have := (hl j hj).2
    omega)
  have hsz : (((w.setCell ⟨S + 2, 0, none⟩ (.bool true)).setCell ⟨S, 0, none⟩ (.string k)).setCell ⟨S + 1, 0, none⟩ (.int .i64 ((n : Int) + 1))).heap.size = w.heap.size := by simp [World.setCell]
  have RF := hid (show Rf (ordW w S n k) 1 (.slice (some ⟨w.heap.size, 0, none⟩) 1 1) 1 [.string k] from by
    have := rf_str (((w.setCell ⟨S + 2, 0, none⟩ (.bool true)).setCell ⟨S, 0, none⟩ (.string k)).setCell ⟨S + 1, 0, none⟩ (.int .i64 ((n : Int) + 1))) k
    rwa [hsz] at this)
  have HLS := hid hls
  have HBB := hid hB
  generalize hP : OrdP w B kb S (.slice (some ⟨gb, off, none⟩) ks.length cap) lv n k xs = PP at FI ⊢
  clear hP h hl hr hi hls ow hcell hsz hB hil
  subst elv
  by_cases hn0 : n = 0
  · have d0 : ((n : Int) == 0) = true := by rw [beq_iff_eq]; omega
    clear HLS hn0
    go_enter Try.func22, Try.ntmps22
    go_wp2_with (first
      | (at_builtin
         refine wpList_append_rf _ rfl (.tmp 45) (.tmp 47) 55 9 _ 1 16 rfl Try.underlying55 Try.info9 rfl (by omega) B _ n xs rfl OW.out (.slice (some ⟨w.heap.size, 0, none⟩) 1 1) 1 [.string k] rfl RF.out (by omega) (by unfold maxLen; omega) (by rw [ordW_size]; exact Nat.le_succ_of_le HBB.out) ?_
         intro a1 q1 w1 ho1 hg1 hat1
         have Z1 := hid (AP.out _ _ ho1.out hg1.out hat1.out)
         have x0 := cells1 Z1.out.ox.bo
         have x3 := cells1 Z1.out.ox.bv
         have ff : ∀ j, w1.frozen? ⟨S + 3, j, none⟩ = false := fun j => free_of_block Z1.out.ox.bv
         clear ho1 hg1 hat1))
    exact FI.out _ _ Z1.out
  · have d0 : ((n : Int) == 0) = false := by rw [beq_eq_false_iff_ne]; omega
    have d1 : (!Op.bytesLess k.toList ls.toList && !(k.toList == ls.toList)) = true := by rw [gtr_eq]; exact HLS.out (by omega)
    clear HLS hn0
    go_enter Try.func22, Try.ntmps22
    go_wp2_with (first
      | (at_builtin
         refine wpList_append_rf _ rfl (.tmp 45) (.tmp 47) 55 9 _ 1 16 rfl Try.underlying55 Try.info9 rfl (by omega) B _ n xs rfl OW.out (.slice (some ⟨w.heap.size, 0, none⟩) 1 1) 1 [.string k] rfl RF.out (by omega) (by unfold maxLen; omega) (by rw [ordW_size]; exact Nat.le_succ_of_le HBB.out) ?_
         intro a1 q1 w1 ho1 hg1 hat1
         have Z1 := hid (AP.out _ _ ho1.out hg1.out hat1.out)
         have x0 := cells1 Z1.out.ox.bo
         have x3 := cells1 Z1.out.ox.bv
         have ff : ∀ j, w1.frozen? ⟨S + 3, j, none⟩ = false := fun j => free_of_block Z1.out.ox.bv
         clear ho1 hg1 hat1))
    exact FI.out _ _ Z1.out

end Go.Proofs.Ytkalppcekmlgbaa
