import Derived.Test.YtiammlngbejhkaaK01
import Derived.Test.YtiammlngbejhkaaK02
namespace Go.Proofs.Ytiammlngbejhkaa
open Go.RowKit

theorem cmpI_vals (a b : Int) : cmpI a b = -1 ∨ cmpI a b = 0 ∨ cmpI a b = 1 := by
  unfold cmpI; split
  · simp
  · split <;> simp
theorem cmpI_anti (a b : Int) : cmpI b a = -cmpI a b := by
  unfold cmpI; split <;> split <;> (try split) <;> omega
theorem cmpI_zero (a b : Int) : cmpI a b = 0 ↔ a = b := by
  unfold cmpI; split
  · constructor <;> intro h <;> omega
  · split <;> constructor <;> intro h <;> omega
theorem cmpI_trans (a b c : Int) (h1 : cmpI a b ≤ 0) (h2 : cmpI b c ≤ 0) : cmpI a c ≤ 0 ∧ (cmpI a b < 0 ∨ cmpI b c < 0 → cmpI a c < 0) := by
  have e1 : a ≤ b ∧ (cmpI a b < 0 → a < b) := by
    unfold cmpI at h1 ⊢
    split at h1
    · rename_i h; rw [if_pos h]; omega
    · rename_i h
      rw [if_neg h]
      split at h1
      · omega
      · rename_i h'; rw [if_neg h']; omega
  have e2 : b ≤ c ∧ (cmpI b c < 0 → b < c) := by
    unfold cmpI at h2 ⊢
    split at h2
    · rename_i h; rw [if_pos h]; omega
    · rename_i h
      rw [if_neg h]
      split at h2
      · omega
      · rename_i h'; rw [if_neg h']; omega
  have e3 : a ≤ c → cmpI a c ≤ 0 := by unfold cmpI; intro h; split <;> (try split) <;> omega
  have e4 : a < c → cmpI a c < 0 := by unfold cmpI; intro h; rw [if_pos h]; omega
  refine ⟨e3 (by omega), ?_⟩
  rintro (h | h)
  · exact e4 (by have := e1.2 h; omega)
  · exact e4 (by have := e2.2 h; omega)

theorem cb_vals : ∀ (a b : List UInt8), Lib.compareBytes a b = -1 ∨ Lib.compareBytes a b = 0 ∨ Lib.compareBytes a b = 1
  | [], [] => by simp [Lib.compareBytes]
  | [], _ :: _ => by simp [Lib.compareBytes]
  | _ :: _, [] => by simp [Lib.compareBytes]
  | a :: ar, b :: bs => by
    unfold Lib.compareBytes
    split
    · simp
    · split
      · simp
      · exact cb_vals ar bs
theorem cb_anti : ∀ (a b : List UInt8), Lib.compareBytes b a = -Lib.compareBytes a b
  | [], [] => by simp [Lib.compareBytes]
  | [], _ :: _ => by simp [Lib.compareBytes]
  | _ :: _, [] => by simp [Lib.compareBytes]
  | a :: ar, b :: bs => by
    have ih := cb_anti ar bs
    unfold Lib.compareBytes
    by_cases h1 : a < b
    · have h2 : ¬ b < a := by rw [UInt8.lt_iff_toNat_lt] at *; omega
      rw [if_neg h2, if_pos h1, if_pos h1]; rfl
    · by_cases h2 : b < a
      · rw [if_pos h2, if_neg h1, if_pos h2]
      · rw [if_neg h2, if_neg h1, if_neg h1, if_neg h2, ih]
theorem cb_zero : ∀ (a b : List UInt8), Lib.compareBytes a b = 0 ↔ a = b
  | [], [] => by simp [Lib.compareBytes]
  | [], _ :: _ => by simp [Lib.compareBytes]
  | _ :: _, [] => by simp [Lib.compareBytes]
  | a :: ar, b :: bs => by
    have ih := cb_zero ar bs
    unfold Lib.compareBytes
    by_cases h1 : a < b
    · rw [if_pos h1]
      constructor
      · intro h; omega
      · intro h; injection h with h2 _; subst h2; rw [UInt8.lt_iff_toNat_lt] at h1; omega
    · by_cases h2 : b < a
      · rw [if_neg h1, if_pos h2]
        constructor
        · intro h; omega
        · intro h; injection h with h3 _; subst h3; rw [UInt8.lt_iff_toNat_lt] at h2; omega
      · rw [if_neg h1, if_neg h2, ih]
        have : a = b := by
          apply UInt8.toNat_inj.1
          rw [UInt8.lt_iff_toNat_lt] at h1 h2
          omega
        subst this
        simp
theorem cb_trans : ∀ (a b c : List UInt8), Lib.compareBytes a b ≤ 0 → Lib.compareBytes b c ≤ 0 → Lib.compareBytes a c ≤ 0 ∧ (Lib.compareBytes a b < 0 ∨ Lib.compareBytes b c < 0 → Lib.compareBytes a c < 0)
  | [], [], [] => by simp [Lib.compareBytes]
  | [], [], _ :: _ => by simp [Lib.compareBytes]
  | [], _ :: _, [] => by simp [Lib.compareBytes]
  | [], _ :: _, _ :: _ => by simp [Lib.compareBytes]
  | _ :: _, [], _ => by simp [Lib.compareBytes]
  | _ :: _, _ :: _, [] => by simp [Lib.compareBytes]
  | a :: ar, b :: bs, c :: cs => by
    intro h1 h2
    have ih := cb_trans ar bs cs
    unfold Lib.compareBytes at h1 h2 ⊢
    simp only [UInt8.lt_iff_toNat_lt] at h1 h2 ⊢
    by_cases a1 : a.toNat < b.toNat
    · rw [if_pos a1] at h1 ⊢
      by_cases b1 : b.toNat < c.toNat
      · rw [if_pos (by omega)]; simp
      · rw [if_neg b1] at h2
        by_cases b2 : c.toNat < b.toNat
        · rw [if_pos b2] at h2; omega
        · rw [if_pos (by omega)]; simp
    · rw [if_neg a1] at h1
      by_cases a2 : b.toNat < a.toNat
      · rw [if_pos a2] at h1; omega
      · rw [if_neg a2] at h1
        by_cases b1 : b.toNat < c.toNat
        · rw [if_pos (show a.toNat < c.toNat by omega)]; simp
        · rw [if_neg b1] at h2
          by_cases b2 : c.toNat < b.toNat
          · rw [if_pos b2] at h2; omega
          · rw [if_neg b2] at h2
            rw [if_neg a1, if_neg a2, if_neg b1, if_neg b2, if_neg (show ¬ a.toNat < c.toNat by omega), if_neg (show ¬ c.toNat < a.toNat by omega)]
            exact ih h1 h2

end Go.Proofs.Ytiammlngbejhkaa

namespace Go.Proofs.Ytiammlngbejhkaa
open Go.RowKit

theorem cmpV_vals (k i : Int) (s : ByteArray) (l j : Int) (t : ByteArray) : cmpV k i s l j t = -1 ∨ cmpV k i s l j t = 0 ∨ cmpV k i s l j t = 1 := by
  unfold cmpV
  split
  · exact cmpI_vals k l
  · split
    · exact cmpI_vals i j
    · split
      · exact cb_vals _ _
      · simp

theorem cmpV_k (k i : Int) (s : ByteArray) (j : Int) (t : ByteArray) : cmpV k i s k j t = if k = 1 then cmpI i j else if k = 2 then cmpS s t else 0 := by
  have h : cmpI k k = 0 := (cmpI_zero k k).2 rfl
  unfold cmpV
  rw [h]
  simp
theorem cmpV_n {k l : Int} (h : k ≠ l) (i : Int) (s : ByteArray) (j : Int) (t : ByteArray) : cmpV k i s l j t = cmpI k l := by
  unfold cmpV
  rw [if_pos (fun e => h ((cmpI_zero k l).1 e))]

theorem cmpV_anti (k i : Int) (s : ByteArray) (l j : Int) (t : ByteArray) : cmpV l j t k i s = -cmpV k i s l j t := by
  by_cases e : k = l
  · subst e
    rw [cmpV_k, cmpV_k]
    split
    · exact cmpI_anti i j
    · split
      · exact cb_anti _ _
      · rfl
  · rw [cmpV_n (fun h => e h.symm), cmpV_n e]
    exact cmpI_anti k l

theorem cmpV_self (k i : Int) (s : ByteArray) : cmpV k i s k i s = 0 := by
  have := cmpV_anti k i s k i s
  omega

theorem cmpV_trans (ka ia : Int) (sa : ByteArray) (kb ib : Int) (sb : ByteArray) (kc ic : Int) (sc : ByteArray) (h1 : cmpV ka ia sa kb ib sb ≤ 0) (h2 : cmpV kb ib sb kc ic sc ≤ 0) :
    cmpV ka ia sa kc ic sc ≤ 0 ∧ (cmpV ka ia sa kb ib sb < 0 ∨ cmpV kb ib sb kc ic sc < 0 → cmpV ka ia sa kc ic sc < 0) := by
  by_cases a : ka = kb
  · subst a
    by_cases b : ka = kc
    · subst b
      rw [cmpV_k] at h1 h2
      rw [cmpV_k, cmpV_k, cmpV_k]
      by_cases k1 : ka = 1
      · simp only [k1, if_true] at h1 h2 ⊢
        exact cmpI_trans _ _ _ h1 h2
      · by_cases k2 : ka = 2
        · simp only [k2, if_true] at h1 h2 ⊢
          exact cb_trans _ _ _ (by simpa using h1) (by simpa using h2)
        · simp only [k1, k2, if_false] at h1 h2 ⊢
          omega
    · rw [cmpV_n b] at h2
      rw [cmpV_n b, cmpV_n b]
      have v := cmpI_vals ka kc
      have z : cmpI ka kc ≠ 0 := fun h => b ((cmpI_zero _ _).1 h)
      omega
  · rw [cmpV_n a] at h1
    rw [cmpV_n a]
    have v := cmpI_vals ka kb
    have z : cmpI ka kb ≠ 0 := fun h => a ((cmpI_zero _ _).1 h)
    by_cases b : kb = kc
    · subst b
      rw [cmpV_n a]
      omega
    · rw [cmpV_n b] at h2
      rw [cmpV_n b]
      have t := cmpI_trans ka kb kc h1 h2
      have t2 : cmpI ka kc < 0 := t.2 (.inl (by omega))
      have c : ka ≠ kc := fun e => by
        rw [(cmpI_zero ka kc).2 e] at t2
        omega
      rw [cmpV_n c]
      omega

/-- Values that neither comes ahead of the other are the same. -/
theorem cmpV_same (k i : Int) (s : ByteArray) (l j : Int) (t : ByteArray) (h : cmpV k i s l j t = 0) (ha : chk k i s = 0) (hb : chk l j t = 0) : k = l ∧ i = j ∧ s = t := by
  unfold cmpV at h
  by_cases a : cmpI k l = 0
  · have e : k = l := (cmpI_zero _ _).1 a
    subst e
    rw [if_neg (by simpa using a)] at h
    unfold chk at ha hb
    by_cases k1 : k = 1
    · rw [if_pos k1] at h ha hb
      have ei := (cmpI_zero _ _).1 h
      split at ha
      · split at hb
        · rename_i e1 e2; exact ⟨rfl, ei, by rw [e1, e2]⟩
        · omega
      · omega
    · rw [if_neg k1] at h ha hb
      by_cases k2 : k = 2
      · rw [if_pos k2] at h ha hb
        have es := (cb_zero _ _).1 h
        split at ha
        · split at hb
          · rename_i e1 e2
            refine ⟨rfl, by rw [e1, e2], ?_⟩
            apply toList_inj
            rw [ByteArray.toList_eq, ByteArray.toList_eq]
            exact es
          · omega
        · omega
      · rw [if_neg k2] at ha hb
        split at ha
        · split at hb
          · rename_i e1 e2
            exact ⟨rfl, by rw [e1.2.1, e2.2.1], by rw [e1.2.2, e2.2.2]⟩
          · omega
        · omega
  · rw [if_pos a] at h
    exact absurd h a

end Go.Proofs.Ytiammlngbejhkaa
