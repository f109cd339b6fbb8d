import Derived.Test.YtkalppcekmlgbabSa
import Derived.Test.YtkalppcekmlgbabVsRb
namespace Go.Proofs.Ytkalppcekmlgbab.Vs
open Go.RowKit

/-- The boxes. -/
structure Sx4 (B S : Nat) (w : World) (frm to : ByteArray) (n : Int) : Prop where
  bf : Bx w B frm
  be : Bx w (B + 1) to
  bn : w.heap[S]? = some (.cells #[.int .i64 n] 3 (0, 0))
  bo : w.heap[S + 1]? = some (.cells #[.bool true] 4 (0, 0))

theorem Sx4.kept {B S : Nat} {w w' : World} {frm to : ByteArray} {n : Int} {Q : Nat → Prop} (h : Sx4 B S w frm to n) (hk : Kept Q w w') (h0 : ¬ Q B) (h1 : ¬ Q (B + 1)) (h2 : ¬ Q S) (h3 : ¬ Q (S + 1)) : Sx4 B S w' frm to n :=
  ⟨hp_kept h.bf hk h0, hp_kept h.be hk h1, hp_kept h.bn hk h2, hp_kept h.bo hk h3⟩

def SpnP (w : World) (B S : Nat) (frm to : ByteArray) (n : Nat) : Ending → World → Prop := fun e w' => e = .returned (.bool true) ∧ Sx4 B S w' frm to ((n : Int) + 1) ∧ Kept (fun j => j = S ∨ j = S + 1) w w'

theorem spn_fin {w : World} {B S : Nat} {frm to : ByteArray} {n : Nat} (h : Sx4 B S w frm to n) (hS : B + 1 < S) : SpnP w B S frm to n (.returned (.bool true)) ((w.setCell ⟨S + 1, 0, none⟩ (.bool true)).setCell ⟨S, 0, none⟩ (.int .i64 ((n : Int) + 1))) := by
  have K : Kept (fun j => j = S ∨ j = S + 1) w ((w.setCell ⟨S + 1, 0, none⟩ (.bool true)).setCell ⟨S, 0, none⟩ (.int .i64 ((n : Int) + 1))) :=
    ((Kept.refl (fun j => j = S ∨ j = S + 1) w).setCell (p := ⟨S + 1, 0, none⟩) (fun _ => .inr rfl) _).setCell (p := ⟨S, 0, none⟩) (fun _ => .inl rfl) _
  refine ⟨rfl, ⟨hp_kept h.bf K (by omega), hp_kept h.be K (by omega), ?_, ?_⟩, K⟩
  · exact set_block (i := 0) (hp_set h.bn (by simp) _) _
  · exact hp_set (set_block (i := 0) h.bo _) (by simp) _

set_option maxRecDepth 100000 in
set_option maxHeartbeats 8000000 in
theorem spn1 (w : World) (B S n : Nat) (frm to k : ByteArray) (h : Sx4 B S w frm to n) (hS : B + 1 < S) (hin : inR frm to k = true) (hn : n < 300) (hk : k.size ≤ 281474976710656) :
    Calls Try.prog 9 #[.string k, .string (k ++ exB), .pointer (some ⟨S + 1, 0, none⟩), .pointer (some ⟨B, 0, none⟩), .pointer (some ⟨B + 1, 0, none⟩), .pointer (some ⟨S, 0, none⟩)] w (SpnP w B S frm to n) := by
  have y0 := cells1 h.bf
  have y1 := cells1 h.be
  have y2 := cells1 h.bn
  have y3 := cells1 h.bo
  have g0 : ∀ j, w.frozen? ⟨S, j, none⟩ = false := fun j => free_of_block h.bn
  have g1 : ∀ j, w.frozen? ⟨S + 1, j, none⟩ = false := fun j => free_of_block h.bo
  have hnw : IntKind.i64.wrap ((n : Int) + 1) = (n : Int) + 1 := by rw [IntKind.wrap_i64]; omega
  have hn3 : (n : Int) < 300 := by omega
  have hsz : ¬ (k.size + exB.size > 9223372036854775807) := by have : exB.size = 1 := rfl; omega
  have hkk : ((k ++ exB).toList == (k ++ exB).toList) = true := by simp
  have FI := hid (spn_fin h hS)
  generalize hP : SpnP w B S frm to n = PP at FI ⊢
  simp only [inR, Bool.and_eq_true, Bool.or_eq_true, decide_eq_true_eq, Bool.not_eq_true'] at hin
  obtain ⟨h1, h2⟩ := hin
  clear hP h
  by_cases ht : to = ⟨#[]⟩
  · have b0 := emp_eq ht
    clear h2 ht
    go_enter Try.func9, Try.ntmps9
    go_wp2
    exact FI.out
  · have b0 := emp_ne ht
    have b1 : (Op.bytesLess k.toList to.toList || (k.toList == to.toList)) = true := by
      rw [leq_eq]
      rcases h2 with h2 | h2
      · exact absurd h2 ht
      · rw [h2]; rfl
    clear h2 ht
    go_enter Try.func9, Try.ntmps9
    go_wp2
    exact FI.out

end Go.Proofs.Ytkalppcekmlgbab.Vs
