import Derived.Test.YtamajeagmkjjbaaKnown
namespace Go.Proofs.Ytamajeagmkjjbaa
open Go.RowKit

theorem Sl.dn {w w' : World} {v : Value} {bs : List Int} (h : Sl w v bs) (hd : DN w w') : Sl w' v bs := by
  obtain ⟨n, rfl⟩ := hd
  exact h.drewN n
theorem DN.below {w w' : World} (hd : DN w w') (B : Nat) : Below B w w' := by
  obtain ⟨n, rfl⟩ := hd
  exact below_drewN _ _ _

theorem rowF_prefix (f : Nat) : ∀ u v : Int, rowF f u = (rowF f v).take (rowF f u).length → u = v := by
  induction f with
  | zero => intro u v h; simpa [rowF] using h
  | succ f ih =>
    intro u v h
    by_cases hu : 127 < u
    · by_cases hv : 127 < v
      · rw [rowF_more f u hu, rowF_more f v hv] at h
        simp only [List.cons_append, List.nil_append, List.length_cons, List.take_succ_cons, List.cons.injEq] at h
        have := ih _ _ h.2
        omega
      · rw [rowF_more f u hu, rowF_last (f + 1) v hv] at h
        simp only [List.cons_append, List.nil_append, List.length_cons, List.take_succ_cons, List.cons.injEq] at h
        omega
    · by_cases hv : 127 < v
      · rw [rowF_last (f + 1) u hu, rowF_more f v hv] at h
        simp only [List.cons_append, List.nil_append, List.length_cons, List.length_nil, List.take_succ_cons, List.cons.injEq] at h
        omega
      · rw [rowF_last (f + 1) u hu, rowF_last (f + 1) v hv] at h
        simpa using h

theorem begZ_row (u v : Int) : begZ (rowF 10 u) (rowF 10 v) = (u == v) := by
  unfold begZ
  by_cases h : u = v
  · subst h; simp
  · have h2 : ¬ rowF 10 u = (rowF 10 v).take (rowF 10 u).length := fun e => h (rowF_prefix 10 u v e)
    have h3 : (u == v) = false := by simpa using h
    rw [h3]
    simp [h2]

theorem numB_row (n : Int) (h : 0 ≤ n) : numB n = rowF 10 n := by
  unfold numB wnumZ
  rw [if_pos rfl, if_neg (by omega)]
  rfl
theorem numB_neg (n : Int) (h : n < 0) : numB n = [] := by
  unfold numB wnumZ
  rw [if_pos rfl, if_pos h]
theorem intB_row (n : Int) : intB n = rowF 10 (foldZ n) := by
  unfold intB wintZ
  rw [if_pos rfl]
  rfl

theorem begZ_num (n m : Int) (hn : 0 ≤ n) (hm : 0 ≤ m) : begZ (numB n) (numB m) = (n == m) := by
  rw [numB_row n hn, numB_row m hm, begZ_row]
theorem foldZ_inj (i j : Int) : (foldZ i == foldZ j) = (i == j) := by
  rw [Bool.eq_iff_iff]
  simp only [beq_iff_eq]
  unfold foldZ
  split <;> split <;> omega
theorem begZ_int (i j : Int) : begZ (intB i) (intB j) = (i == j) := by
  rw [intB_row, intB_row, begZ_row, foldZ_inj]
theorem intB_pos (i : Int) : 0 < (intB i).length := by rw [intB_row]; exact rowF_pos _ _
theorem numB_pos (n : Int) (h : 0 ≤ n) : 0 < (numB n).length := by rw [numB_row n h]; exact rowF_pos _ _

set_option maxRecDepth 100000 in
set_option maxHeartbeats 3200000 in
theorem apart_any (n m i j : Int) (w : World) (hn1 : n < 9223372036854775808) (hm1 : m < 9223372036854775808) (hi0 : -9223372036854775808 ≤ i) (hi1 : i < 9223372036854775808) (hj0 : -9223372036854775808 ≤ j) (hj1 : j < 9223372036854775808) :
    Calls Try.prog 6 #[.int .i64 n, .int .i64 m, .int .i64 i, .int .i64 j] w fun x w' => x = .returned (.bool true) ∧ Below w.heap.size w w' := by
  obtain ⟨N, hN⟩ : ∃ N, N = numB n := ⟨_, rfl⟩
  obtain ⟨M, hM⟩ : ∃ M, M = numB m := ⟨_, rfl⟩
  obtain ⟨I, hI⟩ : ∃ I, I = intB i := ⟨_, rfl⟩
  obtain ⟨J, hJ⟩ : ∃ J, J = intB j := ⟨_, rfl⟩
  have lN : N.length ≤ 11 := by rw [hN]; exact numB_len n
  have lI : I.length ≤ 11 := by rw [hI]; exact intB_len i
  have pI : 0 < I.length := by rw [hI]; exact intB_pos i
  have bIJ := hid (show begZ I J = (i == j) by rw [hI, hJ]; exact begZ_int i j)
  have R1 := hid (fun wx => rows_any n i wx hn1 hi0 hi1)
  have R2 := hid (fun wx => rows_any m j wx hm1 hj0 hj1)
  rw [← hN, ← hI] at R1
  rw [← hM, ← hJ] at R2
  have lM : M.length ≤ 11 := by rw [hM]; exact numB_len m
  have lJ : J.length ≤ 11 := by rw [hJ]; exact intB_len j
  by_cases hn : 0 ≤ n
  · have pN : 0 < N.length := by rw [hN]; exact numB_pos n hn
    by_cases hm : 0 ≤ m
    · have bNM := hid (show begZ N M = (n == m) by rw [hN, hM]; exact begZ_num n m hn hm)
      clear hN hM hI hJ
      go_enter Try.func6, Try.ntmps6
      go_wp2_with fail
      refine (R1.out _).mono ?_
      rintro x w1 ⟨g1, g2, rfl, o1, o2, l1, l2, b1⟩
      have O1 := hid o1
      have O2 := hid o2
      clear o1 o2
      go_wp2_with fail
      refine (R2.out _).mono ?_
      rintro x w2 ⟨g3, g4, rfl, o3, o4, l3, l4, b2⟩
      have S1 := hid ((O1.out.kept (Kept.ofBelow b2) (fun h => h)).sl (by first | omega | decide))
      have S2 := hid ((O2.out.kept (Kept.ofBelow b2) (fun h => h)).sl (by omega))
      have S3 := hid (o3.sl (by omega))
      have S4 := hid (o4.sl (by omega))
      have hb2 : Below w.heap.size w w2 := b1.trans (b2.mono b1.size)
      clear O1 O2 o3 o4 b1 b2 l1 l2 l3 l4
      go_wp2_with fail
      refine (begins_any _ _ N M w2 S1.out S3.out (by omega)).mono ?_
      rintro x w3 ⟨hd, rfl⟩
      rw [bNM.out]
      have S5 := hid (S2.out.dn hd)
      have S6 := hid (S4.out.dn hd)
      have hb3 : Below w.heap.size w w3 := hb2.trans (hd.below _)
      clear S1 S2 S3 S4 hd hb2
      go_wp2_with fail
      refine (begins_any _ _ I J _ S5.out S6.out (by omega)).mono ?_
      rintro x w4 ⟨hd, rfl⟩
      rw [bIJ.out]
      have hb4 := hb3.trans (hd.below w.heap.size)
      clear S5 S6 hd hb3
      go_wp2_with fail
      refine (known_any _).mono ?_
      rintro x w5 ⟨rfl, hb⟩
      have hb5 := hb4.trans (hb.mono hb4.size)
      clear hb hb4
      go_wp2
      go_ret
      exact ⟨rfl, hb5⟩
    · clear hN hM hI hJ
      go_enter Try.func6, Try.ntmps6
      go_wp2_with fail
      refine (R1.out _).mono ?_
      rintro x w1 ⟨g1, g2, rfl, o1, o2, l1, l2, b1⟩
      have O1 := hid o1
      have O2 := hid o2
      clear o1 o2
      go_wp2_with fail
      refine (R2.out _).mono ?_
      rintro x w2 ⟨g3, g4, rfl, o3, o4, l3, l4, b2⟩
      have S1 := hid ((O1.out.kept (Kept.ofBelow b2) (fun h => h)).sl (by first | omega | decide))
      have S2 := hid ((O2.out.kept (Kept.ofBelow b2) (fun h => h)).sl (by omega))
      have S3 := hid (o3.sl (by omega))
      have S4 := hid (o4.sl (by omega))
      have hb2 : Below w.heap.size w w2 := b1.trans (b2.mono b1.size)
      clear O1 O2 o3 o4 b1 b2 l1 l2 l3 l4
      go_wp2_with fail
      have S5 := S2
      have S6 := S4
      have hb3 := hb2
      clear S1 S2 S3 S4 hb2
      refine (begins_any _ _ I J _ S5.out S6.out (by omega)).mono ?_
      rintro x w4 ⟨hd, rfl⟩
      rw [bIJ.out]
      have hb4 := hb3.trans (hd.below w.heap.size)
      clear S5 S6 hd hb3
      go_wp2_with fail
      refine (known_any _).mono ?_
      rintro x w5 ⟨rfl, hb⟩
      have hb5 := hb4.trans (hb.mono hb4.size)
      clear hb hb4
      go_wp2
      go_ret
      exact ⟨rfl, hb5⟩
  · obtain rfl : N = [] := by rw [hN, numB_neg n (by omega)]
    have hn2 : n < 0 := by omega
    clear hN hM hI hJ hn
    go_enter Try.func6, Try.ntmps6
    go_wp2_with fail
    refine (R1.out _).mono ?_
    rintro x w1 ⟨g1, g2, rfl, o1, o2, l1, l2, b1⟩
    have O1 := hid o1
    have O2 := hid o2
    clear o1 o2
    go_wp2_with fail
    refine (R2.out _).mono ?_
    rintro x w2 ⟨g3, g4, rfl, o3, o4, l3, l4, b2⟩
    have S1 := hid ((O1.out.kept (Kept.ofBelow b2) (fun h => h)).sl (by first | omega | decide))
    have S2 := hid ((O2.out.kept (Kept.ofBelow b2) (fun h => h)).sl (by omega))
    have S3 := hid (o3.sl (by omega))
    have S4 := hid (o4.sl (by omega))
    have hb2 : Below w.heap.size w w2 := b1.trans (b2.mono b1.size)
    clear O1 O2 o3 o4 b1 b2 l1 l2 l3 l4
    go_wp2_with fail
    have S5 := S2
    have S6 := S4
    have hb3 := hb2
    clear S1 S2 S3 S4 hb2
    refine (begins_any _ _ I J _ S5.out S6.out (by omega)).mono ?_
    rintro x w4 ⟨hd, rfl⟩
    rw [bIJ.out]
    have hb4 := hb3.trans (hd.below w.heap.size)
    clear S5 S6 hd hb3
    go_wp2_with fail
    refine (known_any _).mono ?_
    rintro x w5 ⟨rfl, hb⟩
    have hb5 := hb4.trans (hb.mono hb4.size)
    clear hb hb4
    go_wp2
    go_ret
    refine ⟨?_, hb5⟩
    show Ending.returned (.bool (!decide (0 ≤ n))) = _
    rw [show decide (0 ≤ n) = false by simp; omega]
    rfl

end Go.Proofs.Ytamajeagmkjjbaa
