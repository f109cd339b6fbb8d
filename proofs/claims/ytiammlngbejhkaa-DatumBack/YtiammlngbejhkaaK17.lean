import Derived.Test.YtiammlngbejhkaaK05
import Derived.Test.YtiammlngbejhkaaK03
import Derived.Test.YtiammlngbejhkaaK04
import Derived.Test.YtiammlngbejhkaaK12
import Derived.Test.YtiammlngbejhkaaK07
import Derived.Test.YtiammlngbejhkaaK16
namespace Go.Proofs.Ytiammlngbejhkaa
open Go.RowKit

theorem unfold_fold (v : Int) : unfoldZ (foldZ v) = v := by
  unfold unfoldZ foldZ
  split <;> split <;> omega

theorem fold_unfold (u : Int) (h : 0 ≤ u) : foldZ (unfoldZ u) = u := by
  unfold unfoldZ foldZ
  split <;> split <;> omega

/-- The bytes of a number, read again: the number in its n lowest bytes. -/
theorem leZ_fixedB (n : Nat) (v : Int) (_h : 0 ≤ v) : leZ (fixedB n v) = v % 256 ^ n := by
  induction n with
  | zero => simp [fixedB, leZ]
  | succ n ih =>
    rw [fixedB_succ, leZ_snoc, ih, fixedB_len, Int.pow_succ]
    have hp : (0 : Int) < 256 ^ n := Int.pow_pos (by omega)
    rw [Int.emod_def v (256 ^ n * 256), ← Int.ediv_ediv_of_nonneg (by omega), Int.emod_def v (256 ^ n), Int.emod_def (v / 256 ^ n) 256]
    generalize v / 256 ^ n = q
    generalize q / 256 = r
    generalize (256 : Int) ^ n = p
    rw [Int.sub_mul, Int.mul_assoc p 256 r, Int.mul_comm (256 * r) p, Int.mul_comm q p]
    omega

/-- A row, read again, whatever follows it. -/
theorem rowGo_rowF (last : Nat) (top : Int) (rest : List Int) (f : Nat) : ∀ (u : Int) (i : Nat) (acc : Int), 0 ≤ u → u < 128 ^ (f + 1) → (i = 0 ∨ 0 < u) → i + f + 1 ≤ last →
    (i + f + 1 = last → u < (top + 1) * 128 ^ f) → 0 ≤ top → top ≤ 127 →
    rowGo last top (rowF f u ++ rest) i acc = (acc + u * 128 ^ i, (i : Int) + (rowF f u).length, 0) := by
  induction f with
  | zero =>
    intro u i acc h0 h1 hi hl ht t0 t1
    simp at h1 ht
    rw [rowF, List.singleton_append, rowGo, if_neg (by omega), if_neg (by omega), if_neg (by omega)]
    rw [Int.emod_eq_of_lt h0 (by omega)]
    simp
  | succ f ih =>
    intro u i acc h0 h1 hi hl ht t0 t1
    by_cases hu : 127 < u
    · rw [rowF_more f u hu, List.append_assoc, List.singleton_append, rowGo, if_neg (by omega), if_pos (by omega)]
      rw [ih (u / 128) (i + 1) _ (by omega) (pow_step f u h1) (by omega) (by omega) ?_ t0 t1]
      · rw [show (u % 128 + 128) % 128 = u % 128 by omega, Int.pow_succ]
        have e : u = u % 128 + 128 * (u / 128) := by omega
        have e2 : u * 128 ^ i = u % 128 * 128 ^ i + u / 128 * (128 ^ i * 128) := by
          conv => lhs; rw [e]
          rw [Int.add_mul, Int.mul_comm 128 (u / 128), Int.mul_assoc, Int.mul_comm 128 (128 ^ i)]
        rw [e2]
        simp
        omega
      · intro hh
        have := ht (by omega)
        rw [Int.pow_succ, ← Int.mul_assoc] at this
        exact Int.ediv_lt_of_lt_mul (by omega) this
    · rw [rowF_last _ u hu, List.singleton_append, rowGo, if_neg (by omega), if_neg (by omega), if_neg (by omega)]
      rw [Int.emod_eq_of_lt h0 (by omega)]
      simp

end Go.Proofs.Ytiammlngbejhkaa

namespace Go.Proofs.Ytiammlngbejhkaa
open Go.RowKit

/-- What was read as a row is the row of what was read. -/
theorem rowF_rowGo (last : Nat) (top : Int) (t0 : 0 ≤ top) (t1 : top ≤ 127) (bs : List Int) : ∀ (i : Nat) (acc r n : Int), Oct bs → i < last → rowGo last top bs i acc = (r, n, 0) →
    ∃ (u : Int) (k : Nat), r = acc + u * 128 ^ i ∧ n = (i : Int) + k ∧ 1 ≤ k ∧ k ≤ bs.length ∧ i + k ≤ last ∧ 0 ≤ u ∧ (i = 0 ∨ 0 < u) ∧ u < 128 ^ k ∧ ∀ f, k ≤ f + 1 → rowF f u = bs.take k := by
  induction bs with
  | nil => intro i acc r n _ _ h; simp [rowGo] at h
  | cons c cs ih =>
    intro i acc r n ho hi h
    have hc : 0 ≤ c ∧ c < 256 := ho c (List.mem_cons_self ..)
    have hcs : Oct cs := fun x hx => ho x (List.mem_cons_of_mem _ hx)
    rw [rowGo] at h
    by_cases h1 : i + 1 = last ∧ top < c
    · rw [if_pos h1] at h; simp at h
    · rw [if_neg h1] at h
      by_cases h2 : 128 ≤ c
      · rw [if_pos h2] at h
        obtain ⟨u, k, hr, hn, k1, k2, k3, u0, u1, u2, hf⟩ := ih (i + 1) _ r n hcs (by omega) h
        have up : 0 < u := by omega
        refine ⟨c % 128 + 128 * u, k + 1, ?_, by omega, by omega, by simp; omega, by omega, by omega, by omega, ?_, ?_⟩
        · rw [hr, Int.pow_succ, Int.add_mul, Int.mul_comm 128 u, Int.mul_assoc, Int.mul_comm 128 (128 ^ i), Int.add_assoc]
        · rw [Int.pow_succ]; omega
        · intro f hk
          obtain ⟨f', rfl⟩ : ∃ f', f = f' + 1 := ⟨f - 1, by omega⟩
          rw [rowF_more f' _ (by omega), show (c % 128 + 128 * u) / 128 = u by omega, hf f' (by omega), List.take_succ_cons]
          have e : (c % 128 + 128 * u) % 128 + 128 = c := by omega
          rw [e]; rfl
      · rw [if_neg h2] at h
        by_cases h3 : 0 < i ∧ c = 0
        · rw [if_pos h3] at h; simp at h
        · rw [if_neg h3] at h
          injection h with ha hb
          injection hb with hb _
          refine ⟨c, 1, ?_, by omega, by omega, by simp, by omega, by omega, by omega, by omega, ?_⟩
          · rw [← ha, Int.emod_eq_of_lt (by omega) (by omega)]
          · intro f _
            rw [rowF_last f c (by omega)]; simp

/-- Bytes that were read as a number, laid again. -/
theorem fixedB_leZ (l : List Int) (h : Oct l) : fixedB l.length (leZ l) = l := by
  induction l with
  | nil => simp [fixedB]
  | cons c cs ih =>
    have hc : 0 ≤ c ∧ c < 256 := h c (List.mem_cons_self ..)
    have hcs : Oct cs := fun x hx => h x (List.mem_cons_of_mem _ hx)
    have hi := ih hcs
    unfold fixedB at hi ⊢
    rw [List.length_cons, List.range_succ_eq_map, List.map_cons, List.map_map, leZ]
    congr 1
    · rw [Int.pow_zero]; omega
    · conv => rhs; rw [← hi]
      apply List.map_congr_left
      intro i _
      simp only [Function.comp]
      rw [Int.pow_succ, Int.mul_comm (256 ^ i) 256, ← Int.ediv_ediv_of_nonneg (by omega)]
      rw [show (c + 256 * leZ cs) / 256 = leZ cs by omega]

end Go.Proofs.Ytiammlngbejhkaa

namespace Go.Proofs.Ytiammlngbejhkaa
open Go.RowKit

theorem rowF_enough (k : Nat) : ∀ (f : Nat) (u : Int), u < 128 ^ (f + 1) → rowF (f + k) u = rowF f u := by
  intro f
  induction f with
  | zero => intro u h; simp at h; rw [rowF_last _ u (by omega), rowF_last _ u (by omega)]
  | succ f ih =>
    intro u h
    by_cases hu : 127 < u
    · rw [show f + 1 + k = f + k + 1 by omega, rowF_more _ u hu, rowF_more _ u hu, ih _ (pow_step f u h)]
    · rw [rowF_last _ u hu, rowF_last _ u hu]

theorem lead_num (f : Int) (hf : f = 1 ∨ f = 3) (v n : Int) (rest : List Int) (h0 : 0 ≤ v) (h1 : v < 9223372036854775808) : leadZ f (rowF 10 v ++ rest) n = (v, ((rowF 10 v).length : Int), 0) := by
  have e : rowF 10 v = rowF 8 v := rowF_enough 2 8 v (by simpa using h1)
  unfold leadZ
  rw [if_neg (by omega), if_neg (by omega), e, rowGo_rowF 9 127 rest 8 v 0 0 h0 (by simpa using h1) (.inl rfl) (by omega) (fun _ => by simpa using h1) (by omega) (by omega)]
  simp

theorem lead_int (v n : Int) (rest : List Int) (h0 : 0 ≤ v) (h1 : v < 18446744073709551616) : leadZ 2 (rowF 10 v ++ rest) n = (v, ((rowF 10 v).length : Int), 0) := by
  have e : rowF 10 v = rowF 9 v := rowF_enough 1 9 v (by simp; omega)
  unfold leadZ
  rw [if_neg (by omega), if_pos rfl, e, rowGo_rowF 10 1 rest 9 v 0 0 h0 (by simp; omega) (.inl rfl) (by omega) (fun _ => by simpa using h1) (by omega) (by omega)]
  simp

theorem lead_fix (v n : Int) (rest : List Int) (h0 : 0 ≤ v) (n0 : 0 ≤ n) (n8 : n ≤ 8) : leadZ 0 (fixedB n.toNat v ++ rest) n = (v % 256 ^ n.toNat, n, 0) := by
  unfold leadZ fixZ
  rw [if_pos rfl, if_neg (by omega), if_neg (by simp [fixedB_len]; omega), List.take_left' (fixedB_len _ _), leZ_fixedB _ _ h0]

theorem mkStr_strBs (s : ByteArray) : mkStr (strBs s) = s := by
  unfold mkStr strBs
  rw [List.map_map]
  have : ((fun x : Int => UInt8.ofNat x.toNat) ∘ fun b : UInt8 => (b.toNat : Int)) = id := by
    funext b; simp
  rw [this, List.map_id]

end Go.Proofs.Ytiammlngbejhkaa

namespace Go.Proofs.Ytiammlngbejhkaa
open Go.RowKit

theorem takeZ_laid (f n : Int) (bs row rest : List Int) (v : Int) (hf : f ≠ 3) (hl : leadZ f (row ++ rest) n = (v, (row.length : Int), 0)) :
    takeZ f n (bs ++ (row ++ rest)) bs.length 0 = ((v, []), bs.length + row.length, 0) := by
  unfold takeZ
  rw [if_pos rfl, List.drop_left, hl]
  simp [hf]

theorem takeZ_text (n : Int) (bs t rest : List Int) (hn : (t.length : Int) ≤ n) (ht : (t.length : Int) < 9223372036854775808) :
    takeZ 3 n (bs ++ (rowF 10 t.length ++ (t ++ rest))) bs.length 0 = (((t.length : Int), t), bs.length + ((rowF 10 t.length).length + t.length), 0) := by
  unfold takeZ
  rw [if_pos rfl, List.drop_left, lead_num 3 (.inr rfl) _ _ _ (by omega) ht]
  rw [if_pos rfl, if_pos rfl, if_neg (by dsimp only; omega), if_neg (by simp; omega)]
  simp
  omega

theorem strBs_mkStr (l : List Int) (h : Oct l) : strBs (mkStr l) = l := by
  unfold mkStr strBs
  simp only [List.map_map]
  conv => rhs; rw [← List.map_id l]
  apply List.map_congr_left
  intro x hx
  have := h x hx
  simp only [Function.comp, id]
  rw [UInt8.toNat_ofNat']
  omega

theorem Oct.drop {l : List Int} (h : Oct l) (n : Nat) : Oct (l.drop n) := fun x hx => h x (List.mem_of_mem_drop hx)
theorem Oct.take {l : List Int} (h : Oct l) (n : Nat) : Oct (l.take n) := fun x hx => h x (List.mem_of_mem_take hx)

theorem three_t {t : Int × Int × Int} (h : t.2.2 = 0) : t = (t.1, t.2.1, 0) := by
  obtain ⟨a, b, c⟩ := t
  cases h; rfl

/-- A row that was read, laid again. -/
theorem row_again (f n : Int) (d : List Int) (hd : Oct d) (hf : f ≠ 0) (h : (leadZ f d n).2.2 = 0) :
    ∃ k : Nat, (leadZ f d n).2.1 = k ∧ 1 ≤ k ∧ k ≤ d.length ∧ 0 ≤ (leadZ f d n).1 ∧ rowF 10 (leadZ f d n).1 = d.take k := by
  unfold leadZ at h ⊢
  rw [if_neg hf] at h ⊢
  by_cases h2 : f = 2
  · rw [if_pos h2] at h ⊢
    obtain ⟨u, k, hr, hn, k1, k2, k3, u0, _, _, hrow⟩ := rowF_rowGo 10 1 (by omega) (by omega) d 0 0 (rowGo 10 1 d 0 0).1 (rowGo 10 1 d 0 0).2.1 hd (by omega) (three_t h)
    rw [hr, hn]
    refine ⟨k, by omega, k1, k2, by simpa using u0, ?_⟩
    rw [show (0 : Int) + u * 128 ^ 0 = u by simp]
    exact hrow 10 (by omega)
  · rw [if_neg h2] at h ⊢
    obtain ⟨u, k, hr, hn, k1, k2, k3, u0, _, _, hrow⟩ := rowF_rowGo 9 127 (by omega) (by omega) d 0 0 (rowGo 9 127 d 0 0).1 (rowGo 9 127 d 0 0).2.1 hd (by omega) (three_t h)
    rw [hr, hn]
    refine ⟨k, by omega, k1, k2, by simpa using u0, ?_⟩
    rw [show (0 : Int) + u * 128 ^ 0 = u by simp]
    exact hrow 10 (by omega)

theorem takeZ_row {f n : Int} {bs : List Int} {at' a2 : Nat} {v : Int} {t : List Int} (hb : Oct bs) (hf0 : f ≠ 0) (hf : f ≠ 3) (h : takeZ f n bs at' 0 = ((v, t), a2, 0)) :
    0 ≤ v ∧ t = [] ∧ at' ≤ a2 ∧ a2 ≤ max at' bs.length ∧ rowF 10 v = (bs.drop at').take (a2 - at') := by
  unfold takeZ at h
  rw [if_pos rfl] at h
  by_cases h0 : (leadZ f (bs.drop at') n).2.2 = 0
  · rw [if_pos h0, if_neg hf] at h
    obtain ⟨k, hk, k1, k2, hv, hrow⟩ := row_again f n _ (hb.drop at') hf0 h0
    injection h with ha hb'
    injection ha with ha1 ha2
    injection hb' with hc _
    rw [hk] at hc
    simp at hc k2
    subst hc ha1
    refine ⟨hv, ha2.symm, by omega, by omega, ?_⟩
    rw [hrow]
    congr 1
    omega
  · rw [if_neg h0] at h
    injection h with _ hb'
    injection hb' with _ hc
    exact absurd hc h0

theorem takeZ_txt {n : Int} {bs : List Int} {at' a2 : Nat} {v : Int} {t : List Int} (hb : Oct bs) (h : takeZ 3 n bs at' 0 = ((v, t), a2, 0)) :
    Oct t ∧ at' ≤ a2 ∧ a2 - at' ≤ (bs.drop at').length ∧ rowF 10 t.length ++ t = (bs.drop at').take (a2 - at') := by
  unfold takeZ at h
  rw [if_pos rfl] at h
  by_cases h0 : (leadZ 3 (bs.drop at') n).2.2 = 0
  · rw [if_pos h0, if_pos rfl] at h
    obtain ⟨k, hk, k1, k2, hv, hrow⟩ := row_again 3 n _ (hb.drop at') (by omega) h0
    rw [hk] at h
    generalize (leadZ 3 (bs.drop at') n).1 = V at h hv hrow
    by_cases h1 : max n 0 < V
    · rw [if_pos h1] at h; simp at h
    · rw [if_neg h1] at h
      by_cases h2 : ((bs.drop at').length : Int) - k < V
      · rw [if_pos h2] at h; simp at h
      · rw [if_neg h2] at h
        obtain ⟨m, rfl⟩ : ∃ m : Nat, V = m := ⟨V.toNat, by omega⟩
        injection h with ha hb'
        injection ha with ha1 ha2
        injection hb' with hc _
        generalize hd : bs.drop at' = d at *
        have hod : Oct d := hd ▸ hb.drop at'
        simp only [Int.toNat_natCast] at ha2
        have hc' : a2 = at' + (k + m) := by omega
        subst ha2 hc'
        have hlen : ((d.drop k).take m).length = m := by rw [List.length_take, List.length_drop]; omega
        refine ⟨(hod.drop k).take m, by omega, by omega, ?_⟩
        rw [hlen, hrow, show at' + (k + m) - at' = k + m by omega, List.take_add]
  · rw [if_neg h0] at h
    injection h with _ hb'
    injection hb' with _ hc
    exact absurd hc h0

theorem mkStr_size (l : List Int) : (mkStr l).size = l.length := by
  unfold mkStr ByteArray.size
  simp

theorem oct_str (s : ByteArray) : Oct (strBs s) := by
  intro x hx
  unfold strBs at hx
  obtain ⟨b, _, rfl⟩ := List.mem_map.1 hx
  have := b.toNat_lt
  omega


theorem oct_row (f : Nat) : ∀ (u : Int), 0 ≤ u → u < 128 ^ (f + 1) → Oct (rowF f u) := by
  induction f with
  | zero =>
    intro u h0 h1 x hx
    simp [rowF] at hx
    subst hx
    simp at h1
    omega
  | succ f ih =>
    intro u h0 h1 x hx
    unfold rowF at hx
    split at hx
    · rcases List.mem_cons.1 hx with rfl | hx
      · omega
      · have : u / 128 < 128 ^ (f + 1) := by
          rw [Int.pow_succ] at h1
          exact Int.ediv_lt_of_lt_mul (by omega) h1
        exact ih (u / 128) (by omega) this x hx
    · simp at hx
      subst hx
      omega

theorem encB_oct (k i : Int) (s : ByteArray) (h0 : -9223372036854775808 ≤ i) (h1 : i < 9223372036854775808) (hs : s.size ≤ 1000000) : Oct (encB k i s) := by
  have hf := foldZ_bd i h0 h1
  unfold encB
  split
  · intro x hx
    rcases List.mem_append.1 hx with h | h
    · simp at h; omega
    · exact oct_row 10 _ hf.1 (by simp; omega) x h
  · split
    · intro x hx
      rcases List.mem_append.1 hx with h | h
      · rcases List.mem_append.1 h with h | h
        · simp at h; omega
        · exact oct_row 10 _ (by omega) (by simp [strBs_len]; omega) x h
      · exact oct_str s x h
    · intro x hx
      simp at hx; omega

/-- There and back: P5.10. -/
theorem dec_enc (k i : Int) (s : ByteArray) (h0 : -9223372036854775808 ≤ i) (h1 : i < 9223372036854775808) (hc : chk k i s = 0) : decZ (encB k i s) = ((k, i, strBs s), 0) := by
  have hf := foldZ_bd i h0 h1
  have hbyte : ∀ (b : Int) (r : List Int), takeZ 0 1 (b :: r) 0 0 = ((b, []), 1, 0) := by
    intro b r
    rcases takeZ_byte (b :: r) with ⟨h, _⟩ | ⟨b', r', h, h2⟩
    · cases h
    · injection h with e1 e2
      subst e1 e2
      exact h2
  unfold chk at hc
  split at hc
  · rename_i hk
    subst hk
    split at hc
    · rename_i hs
      subst hs
      have e : encB 1 i emp = 1 :: (rowF 10 (foldZ i)) := by simp [encB]
      have t2 := takeZ_laid 2 0 [1] (rowF 10 (foldZ i)) [] (foldZ i) (by omega) (by simpa using lead_int (foldZ i) 0 [] hf.1 hf.2)
      have t2' : takeZ 2 0 (1 :: rowF 10 (foldZ i)) 1 0 = ((foldZ i, []), 1 + (rowF 10 (foldZ i)).length, 0) := by simpa using t2
      rw [e]
      have hs0 : strBs emp = [] := rfl
      simp [decZ, hbyte, t2', endZ, unfold_fold, hs0]
      omega
    · omega
  · split at hc
    · rename_i hk
      subst hk
      split at hc
      · rename_i hi
        subst hi
        split at hc
        · omega
        · rename_i hg
          have hsl := strBs_len s
          have e : encB 2 0 s = 2 :: (rowF 10 (strBs s).length ++ strBs s) := by simp [encB]
          have t2 := takeZ_text 256 [2] (strBs s) [] (by omega) (by omega)
          have t2' : takeZ 3 256 (2 :: (rowF 10 (strBs s).length ++ strBs s)) 1 0 = ((((strBs s).length : Int), strBs s), 1 + ((rowF 10 (strBs s).length).length + (strBs s).length), 0) := by simpa using t2
          rw [e]
          simp [decZ, hbyte, t2', endZ]
          omega
      · omega
    · split at hc
      · rename_i hk
        obtain ⟨rfl, rfl, rfl⟩ := hk
        rfl
      · omega

end Go.Proofs.Ytiammlngbejhkaa

namespace Go.Proofs.Ytiammlngbejhkaa
open Go.RowKit

theorem takeZ_txt_len {bs : List Int} {at' a2 : Nat} {v : Int} {t : List Int} (h : takeZ 3 256 bs at' 0 = ((v, t), a2, 0)) : t.length ≤ 256 := by
  unfold takeZ at h
  rw [if_pos rfl] at h
  split at h
  · rw [if_pos rfl] at h
    split at h
    · injection h with h1 h2; injection h2 with h3 h4; omega
    · rename_i hm
      split at h
      · injection h with h1 h2; injection h2 with h3 h4; omega
      · injection h with h1 h2
        injection h1 with h3 h4
        subst h4
        rw [List.length_take]
        have : (leadZ 3 (bs.drop at') 256).1 ≤ 256 := by
          have e : max (256 : Int) 0 = 256 := by omega
          rw [e] at hm
          omega
        omega
  · rename_i hne
    injection h with h1 h2; injection h2 with h3 h4; exact absurd h4 hne

theorem endZ_zero {len at' : Nat} {e : Int} (h : endZ len at' e = 0) : e = 0 ∧ len ≤ at' := by
  unfold endZ at h
  split at h
  · rename_i he
    split at h
    · omega
    · exact ⟨he, by omega⟩
  · omega

/-- Bytes that are taken are the value's own. -/
theorem enc_dec (bs : List Int) (ho : Oct bs) (k i : Int) (x : List Int) (hd : decZ bs = ((k, i, x), 0)) :
    chk k i (mkStr x) = 0 ∧ encB k i (mkStr x) = bs ∧ (-9223372036854775808 ≤ i ∧ i < 9223372036854775808) ∧ (mkStr x).size ≤ 256 := by
  rcases takeZ_byte bs with ⟨rfl, ht⟩ | ⟨b, r, rfl, ht⟩
  · simp [decZ, ht, endZ] at hd
  · by_cases b0 : b = 0
    · subst b0
      simp [decZ, ht] at hd
      obtain ⟨⟨rfl, rfl, rfl⟩, he⟩ := hd
      have := (endZ_zero he).2
      simp at this
      subst this
      exact ⟨rfl, rfl, by omega, by decide⟩
    · by_cases b1 : b = 1
      · subst b1
        have hb := takeZ_bd 2 0 (1 :: r) 1 0 ho
        obtain ⟨⟨⟨u, t⟩, a2, e2⟩, ht2⟩ : ∃ t, takeZ 2 0 (1 :: r) 1 0 = t := ⟨_, rfl⟩
        rw [ht2] at hb
        simp [decZ, ht, ht2] at hd
        obtain ⟨⟨rfl, rfl, rfl⟩, he⟩ := hd
        obtain ⟨rfl, hlen⟩ := endZ_zero he
        have hr := takeZ_row ho (by omega) (by omega) ht2
        obtain ⟨u0, rfl, _, ha, hrow⟩ := hr
        simp at hlen ha hrow
        have ha2 : a2 - 1 = r.length := by omega
        rw [ha2, List.take_length] at hrow
        have hu := hb.2.1
        have hu : u < 18446744073709551616 := hu
        refine ⟨by rfl, ?_, ?_, by decide⟩
        · simp [encB, fold_unfold u u0, hrow]
        · unfold unfoldZ; split <;> omega
      · by_cases b2 : b = 2
        · subst b2
          obtain ⟨⟨⟨u, t⟩, a2, e2⟩, ht2⟩ : ∃ t, takeZ 3 256 (2 :: r) 1 0 = t := ⟨_, rfl⟩
          simp [decZ, ht, ht2] at hd
          obtain ⟨⟨rfl, rfl, rfl⟩, he⟩ := hd
          obtain ⟨rfl, hlen⟩ := endZ_zero he
          obtain ⟨ot, ha1, ha, hrow⟩ := takeZ_txt ho ht2
          have hl := takeZ_txt_len ht2
          simp at hlen ha hrow
          have ha2 : a2 - 1 = r.length := by omega
          rw [ha2, List.take_length] at hrow
          have hsz := mkStr_size t
          refine ⟨?_, ?_, by omega, by omega⟩
          · have : ¬ 256 < (mkStr t).size := by omega
            simp [chk, this]
          · simp [encB, strBs_mkStr t ot, hrow]
        · simp [decZ, ht, b0, b1, b2] at hd

end Go.Proofs.Ytiammlngbejhkaa

namespace Go.Proofs.Ytiammlngbejhkaa
open Go.RowKit

theorem enc_inj (k i : Int) (s : ByteArray) (l j : Int) (t : ByteArray) (h0 : -9223372036854775808 ≤ i) (h1 : i < 9223372036854775808) (h2 : -9223372036854775808 ≤ j) (h3 : j < 9223372036854775808) (hc : chk k i s = 0) (hd : chk l j t = 0)
    (h : encB k i s = encB l j t) : k = l ∧ i = j ∧ s = t := by
  have e1 := dec_enc k i s h0 h1 hc
  have e2 := dec_enc l j t h2 h3 hd
  rw [h, e2] at e1
  injection e1 with e1 _
  injection e1 with ek e1
  injection e1 with ei es
  refine ⟨ek.symm, ei.symm, ?_⟩
  rw [← mkStr_strBs s, ← es, mkStr_strBs]

/-- What Decode says of a value's bytes. -/
theorem decode_enc (k i : Int) (s : ByteArray) (h0 : -9223372036854775808 ≤ i) (h1 : i < 9223372036854775808) (hs : s.size ≤ 1000000) (hc : chk k i s = 0) (v : Value) (w : World) (h : Sl w v (encB k i s)) :
    Calls Try.prog 31 #[v] w fun e w' => e = .returned (.tuple #[vl k i s, .int .i64 0]) ∧ Below w.heap.size w w' := by
  have hl : (encB k i s).length ≤ 1000000000 := by
    unfold encB
    split
    · have := rowF_le 10 (foldZ i); simp; omega
    · split
      · have := rowF_le 10 (strBs s).length; simp [strBs_len] at *; omega
      · simp
  refine (decode_any v _ w h (encB_oct k i s h0 h1 hs) hl).mono ?_
  rintro e w' ⟨rfl, hb⟩
  refine ⟨?_, hb⟩
  rw [dec_enc k i s h0 h1 hc]
  simp [decV, mkStr_strBs]

/-- Within DatumBack: both arguments' blocks, and the bytes. -/
structure Bst (w W : World) (k i : Int) (s : ByteArray) (l j : Int) (t : ByteArray) (vb : Value) (bs : List Int) : Prop where
  hv : W.heap[w.heap.size]? = some (vo k i s)
  hw : W.heap[w.heap.size + 1]? = some (vo l j t)
  hb : Below w.heap.size w W
  sb : Sl W vb bs

theorem Bst.below {w W W' : World} {k i : Int} {s : ByteArray} {l j : Int} {t : ByteArray} {vb : Value} {bs : List Int} (h : Bst w W k i s l j t vb bs) (hb : Below W.heap.size W W') : Bst w W' k i s l j t vb bs :=
  ⟨blk_of hb h.hv (lt_of h.hv), blk_of hb h.hw (lt_of h.hw), below_on h.hb hb, h.sb.below hb⟩

theorem Bst.mk' (w : World) (k i : Int) (s : ByteArray) (l j : Int) (t : ByteArray) {vb : Value} {bs : List Int} (h : Sl w vb bs) : Bst w ((w.alloc (vo k i s)).alloc (vo l j t)) k i s l j t vb bs :=
  ⟨two1 w _ _, two2 w _ _, below2 w _ _, h.below (below2 w _ _)⟩

theorem dn_below {w w' : World} (h : DN w w') : Below w.heap.size w w' := by
  obtain ⟨n, rfl⟩ := h
  exact ⟨rfl, rfl, rfl, Nat.le_refl _, fun _ _ => rfl⟩

end Go.Proofs.Ytiammlngbejhkaa

namespace Go.Proofs.Ytiammlngbejhkaa
open Go.RowKit

set_option maxRecDepth 100000 in
set_option maxHeartbeats 6400000 in
theorem back_no_err (k i : Int) (s : ByteArray) (l j : Int) (t : ByteArray) (vb : Value) (bs : List Int) (w : World) (hb : Sn w vb bs) (hl : (bs.length : Int) ≤ 100000) (hs : (s.size : Int) ≤ 100000) (ht : (t.size : Int) ≤ 100000) (r : Int) (hr : r ≠ 0) (hE : ∀ w, Calls Try.prog 28 #[vl k i s] w (EncNo r w)) (hC : ∀ w, Calls Try.prog 10 #[vl k i s] w fun x w' => x = .returned (.int .i64 r) ∧ Below w.heap.size w w') (en : Int) (hen : en ≠ 0) (hG : ∀ w, Sl w vb bs → Calls Try.prog 31 #[vb] w fun e w' => e = .returned (.tuple #[vl 0 0 emp, .int .i64 en]) ∧ Below w.heap.size w w') :
    Calls Try.prog 6 #[vl k i s, vl l j t, vb] w fun x w' => x = .returned (.bool true) ∧ Below w.heap.size w w' := by
  have HE := hid hE
  have HC := hid hC
  have HG := hid hG
  have hen2 : (en == 0) = false := by simpa using hen
  have hr2 : (r == 0) = false := by simpa using hr
  clear hE hC hG
  have B0 := hid (Bst.mk' w k i s l j t hb.1)
  obtain ⟨⟨ao, cc, rfl, hcc, hx⟩, hsn⟩ := hb
  clear hcc hx hsn
  go_enter Try.func6, Try.ntmps6
  go_wp2_with (first
    | (go_at_call 28
       (with_reducible show Calls _ _ _ ((w.alloc _).alloc _) _)
       refine (HE.out _).mono ?_
       rintro e w1 ⟨rfl, hb⟩
       have B1 := hid (B0.out.below hb)
       obtain ⟨c0, c1, c2, -⟩ := vfacts B1.out.hv
       obtain ⟨d0, d1, d2, -⟩ := vfacts B1.out.hw
       clear hb)
    | (go_at_call 10
       (with_reducible show Calls _ _ _ w1 _)
       refine (HC.out _).mono ?_
       rintro e w2 ⟨rfl, hb⟩
       have B2 := hid (B1.out.below hb)
       obtain ⟨c0, c1, c2, -⟩ := vfacts B2.out.hv
       obtain ⟨d0, d1, d2, -⟩ := vfacts B2.out.hw
       clear hb)
    | (go_at_call 31
       (with_reducible show Calls _ _ _ w2 _)
       refine (HG.out _ B2.out.sb).mono ?_
       rintro e w6 ⟨rfl, hb⟩
       have B6 := hid ((B2.out.below hb).below (below1 w6 (vo 0 0 emp)))
       clear hb)
    | (go_at_call 9
       (with_reducible show Calls _ _ _ (w6.alloc _) _)
       refine (known_any _).mono ?_
       rintro e w7 ⟨rfl, hb⟩
       have BF := hid (below_on B6.out.hb hb)
       clear hb))
  go_ret
  exact ⟨rfl, BF.out⟩

set_option maxRecDepth 100000 in
set_option maxHeartbeats 6400000 in
theorem back_no_ok (k i : Int) (s : ByteArray) (l j : Int) (t : ByteArray) (vb : Value) (bs : List Int) (w : World) (hb : Sn w vb bs) (hl : (bs.length : Int) ≤ 100000) (hs : (s.size : Int) ≤ 100000) (ht : (t.size : Int) ≤ 100000) (r : Int) (hr : r ≠ 0) (hE : ∀ w, Calls Try.prog 28 #[vl k i s] w (EncNo r w)) (hC : ∀ w, Calls Try.prog 10 #[vl k i s] w fun x w' => x = .returned (.int .i64 r) ∧ Below w.heap.size w w') (zk zi : Int) (zs : ByteArray) (hG : ∀ w, Sl w vb bs → Calls Try.prog 31 #[vb] w fun e w' => e = .returned (.tuple #[vl zk zi zs, .int .i64 0]) ∧ Below w.heap.size w w') (hH : ∀ w, Calls Try.prog 28 #[vl zk zi zs] w (EncOk bs w)) (hI : ∀ w, Calls Try.prog 10 #[vl zk zi zs] w fun x w' => x = .returned (.int .i64 0) ∧ Below w.heap.size w w') :
    Calls Try.prog 6 #[vl k i s, vl l j t, vb] w fun x w' => x = .returned (.bool true) ∧ Below w.heap.size w w' := by
  have HE := hid hE
  have HC := hid hC
  have HG := hid hG
  have HH := hid hH
  have HI := hid hI
  have hr2 : (r == 0) = false := by simpa using hr
  clear hE hC hG hH hI
  have B0 := hid (Bst.mk' w k i s l j t hb.1)
  obtain ⟨⟨ao, cc, rfl, hcc, hx⟩, hsn⟩ := hb
  clear hcc hx hsn
  go_enter Try.func6, Try.ntmps6
  go_wp2_with (first
    | (go_at_call 28
       (with_reducible show Calls _ _ _ ((w.alloc _).alloc _) _)
       refine (HE.out _).mono ?_
       rintro e w1 ⟨rfl, hb⟩
       have B1 := hid (B0.out.below hb)
       obtain ⟨c0, c1, c2, -⟩ := vfacts B1.out.hv
       obtain ⟨d0, d1, d2, -⟩ := vfacts B1.out.hw
       clear hb)
    | (go_at_call 10
       (with_reducible show Calls _ _ _ w1 _)
       refine (HC.out _).mono ?_
       rintro e w2 ⟨rfl, hb⟩
       have B2 := hid (B1.out.below hb)
       obtain ⟨c0, c1, c2, -⟩ := vfacts B2.out.hv
       obtain ⟨d0, d1, d2, -⟩ := vfacts B2.out.hw
       clear hb)
    | (go_at_call 31
       (with_reducible show Calls _ _ _ w2 _)
       refine (HG.out _ B2.out.sb).mono ?_
       rintro e w6 ⟨rfl, hb⟩
       have B6 := hid ((B2.out.below hb).below (below1 w6 (vo zk zi zs)))
       clear hb)
    | (go_at_call 28
       (with_reducible show Calls _ _ _ (w6.alloc _) _)
       refine (HH.out _).mono ?_
       rintro e w7 ⟨gZ, rfl, hoZ, -, hb⟩
       have B7 := hid (B6.out.below hb)
       have Z7 := hid (And.intro (blk_of hb (heap_alloc_new w6 (vo zk zi zs)) (by simp)) hoZ)
       obtain ⟨z0, z1, z2, -⟩ := vfacts Z7.out.1
       clear hb hoZ)
    | (go_at_call 30
       (with_reducible show Calls _ _ _ w7 _)
       refine (bytes_any _ _ bs bs _ (sl_of_owns ((show Own w7 gZ bs from Z7.out.2).owns (Nat.zero_le _) (by unfold maxLen; omega))) B7.out.sb (by omega)).mono ?_
       rintro e w8 ⟨hdn, rfl⟩
       rw [show decide (bs = bs) = true by simp]
       have B8 := hid (B7.out.below (dn_below hdn))
       have Z8 := hid (And.intro (blk_of (dn_below hdn) Z7.out.1 (lt_of Z7.out.1)) trivial)
       obtain ⟨z0, z1, z2, -⟩ := vfacts Z8.out.1
       clear hdn)
    | (go_at_call 10
       (with_reducible show Calls _ _ _ w8 _)
       refine (HI.out _).mono ?_
       rintro e w9 ⟨rfl, hb⟩
       have B9 := hid (B8.out.below hb)
       clear hb)
    | (go_at_call 9
       (with_reducible show Calls _ _ _ w9 _)
       refine (known_any _).mono ?_
       rintro e w99 ⟨rfl, hb⟩
       have BF := hid (below_on B9.out.hb hb)
       clear hb))
  go_ret
  exact ⟨rfl, BF.out⟩

end Go.Proofs.Ytiammlngbejhkaa
