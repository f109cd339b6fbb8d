import Derived.Test.YtamajeagmkjjbaaBack3
import Derived.Test.YtamajeagmkjjbaaTk
import Derived.Test.YtamajeagmkjjbaaLay
namespace Go.Proofs.Ytamajeagmkjjbaa
open Go.RowKit

theorem takeZ_laid (f n : Int) (bs row rest : List Int) (v : Int) (hf : f ≠ 3) (hl : leadZ f (row ++ rest) n = (v, (row.length : Int), 0)) :
    takeZ f n (bs ++ (row ++ rest)) bs.length 0 = ((v, []), bs.length + row.length, 0) := by
  unfold takeZ
  rw [if_pos rfl, List.drop_left, hl]
  simp [hf]

theorem takeZ_text (n : Int) (bs t rest : List Int) (hn : (t.length : Int) ≤ n) (ht : (t.length : Int) < 9223372036854775808) :
    takeZ 3 n (bs ++ (rowF 10 t.length ++ (t ++ rest))) bs.length 0 = (((t.length : Int), t), bs.length + ((rowF 10 t.length).length + t.length), 0) := by
  unfold takeZ
  rw [if_pos rfl, List.drop_left, lead_num 3 (.inr rfl) _ _ _ (by omega) ht]
  rw [if_pos rfl, if_pos rfl, if_neg (by dsimp only; omega), if_neg (by simp; omega)]
  simp
  omega

/-- What an Item asks for, read again. -/
def wantIt (x : It) : Int × Int × List Int :=
  if x.kind = 1 then (x.u % 256, 0, []) else if x.kind = 2 then (x.u % 256 ^ x.n.toNat, 0, []) else if x.kind = 3 then (0, x.n, []) else if x.kind = 4 then (0, x.i, []) else if x.kind = 5 then (0, 0, strBs x.s) else (0, 0, [])

/-- The Item with the text's length for its bound. -/
def It.long (x : It) : It := if x.kind = 5 then { x with n := x.s.size } else x

theorem long_of_ne {x : It} (h : x.kind ≠ 5) : x.long = x := by unfold It.long; rw [if_neg h]

/-- What is laid is taken again, whatever follows. -/
theorem back_one (x : It) (hx : x.ok) (hs : x.s.size ≤ 1000000000) (bs bs2 rest : List Int) (h : layZ (bs, 0) x = (bs2, 0)) :
    itZ x.long (bs2 ++ rest) bs.length 0 = (wantIt x, bs2.length, 0) := by
  obtain ⟨_, ⟨n0, n1⟩, ⟨u0, u1⟩, ⟨i0, i1⟩, _⟩ := hx
  unfold layZ at h
  by_cases h1 : x.kind = 1
  · rw [if_pos h1] at h
    unfold wfixZ at h
    rw [if_pos rfl, if_neg (by omega)] at h
    obtain rfl : bs ++ fixedB 1 (x.u % 256) = bs2 := by injection h
    rw [long_of_ne (by omega)]
    unfold itZ wantIt
    rw [if_pos h1, if_pos h1, List.append_assoc, takeZ_laid 0 1 bs _ rest (x.u % 256) (by omega)]
    · simp
    · have := lead_fix (x.u % 256) 1 rest (by omega) (by omega) (by omega)
      rw [show (1 : Int).toNat = 1 from rfl] at this
      rw [this, fixedB_len]
      simp
  · by_cases h2 : x.kind = 2
    · rw [if_neg h1, if_pos h2] at h
      unfold wfixZ at h
      rw [if_pos rfl] at h
      by_cases hn : x.n < 0 ∨ 8 < x.n
      · rw [if_pos hn] at h; simp at h
      · rw [if_neg hn] at h
        obtain rfl : bs ++ fixedB x.n.toNat x.u = bs2 := by injection h
        rw [long_of_ne (by omega)]
        unfold itZ wantIt
        rw [if_neg h1, if_pos h2, if_neg h1, if_pos h2, List.append_assoc, takeZ_laid 0 x.n bs _ rest (x.u % 256 ^ x.n.toNat) (by omega)]
        · simp
        · rw [lead_fix x.u x.n rest u0 (by omega) (by omega), fixedB_len]
          simp
          omega
    · by_cases h3 : x.kind = 3
      · rw [if_neg h1, if_neg h2, if_pos h3] at h
        unfold wnumZ at h
        rw [if_pos rfl] at h
        by_cases hn : x.n < 0
        · rw [if_pos hn] at h; simp at h
        · rw [if_neg hn] at h
          obtain rfl : bs ++ rowF 10 x.n = bs2 := by injection h
          rw [long_of_ne (by omega)]
          unfold itZ wantIt
          rw [if_neg h1, if_neg h2, if_pos h3, if_neg h1, if_neg h2, if_pos h3, List.append_assoc, takeZ_laid 1 0 bs _ rest x.n (by omega) (lead_num 1 (.inl rfl) _ _ _ (by omega) n1)]
          simp
      · by_cases h4 : x.kind = 4
        · rw [if_neg h1, if_neg h2, if_neg h3, if_pos h4] at h
          unfold wintZ at h
          rw [if_pos rfl] at h
          obtain rfl : bs ++ rowF 10 (foldZ x.i) = bs2 := by injection h
          have hf : 0 ≤ foldZ x.i ∧ foldZ x.i < 18446744073709551616 := by unfold foldZ; split <;> omega
          rw [long_of_ne (by omega)]
          unfold itZ wantIt
          rw [if_neg h1, if_neg h2, if_neg h3, if_pos h4, if_neg h1, if_neg h2, if_neg h3, if_pos h4, List.append_assoc, takeZ_laid 2 0 bs _ rest (foldZ x.i) (by omega) (lead_int _ _ _ hf.1 hf.2)]
          simp [unfold_fold]
        · by_cases h5 : x.kind = 5
          · rw [if_neg h1, if_neg h2, if_neg h3, if_neg h4, if_pos h5] at h
            unfold wtextZ at h
            rw [if_pos rfl] at h
            obtain rfl : bs ++ rowF 10 (strBs x.s).length ++ strBs x.s = bs2 := by injection h
            have hl : x.long = { x with n := x.s.size } := by unfold It.long; rw [if_pos h5]
            rw [hl]
            unfold itZ wantIt
            dsimp only
            rw [if_neg h1, if_neg h2, if_neg h3, if_neg h4, if_pos h5, if_neg h1, if_neg h2, if_neg h3, if_neg h4, if_pos h5, List.append_assoc, List.append_assoc, takeZ_text _ _ _ _ (by rw [strBs_len]; omega) (by rw [strBs_len]; omega)]
            simp
          · rw [if_neg h1, if_neg h2, if_neg h3, if_neg h4, if_neg h5] at h
            obtain rfl : bs = bs2 := by injection h
            rw [long_of_ne h5]
            unfold itZ wantIt
            simp only [if_neg h1, if_neg h2, if_neg h3, if_neg h4, if_neg h5]

end Go.Proofs.Ytamajeagmkjjbaa
