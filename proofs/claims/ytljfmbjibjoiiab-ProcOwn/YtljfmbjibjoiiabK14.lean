import Derived.Test.YtljfmbjibjoiiabK08
import Derived.Test.YtljfmbjibjoiiabK10
import Derived.Test.YtljfmbjibjoiiabK12
namespace Go.Proofs.Ytljfmbjibjoiiab
open Go.RowKit

theorem takeZ_txt_len {bs : List Int} {at' a2 : Nat} {v : Int} {t : List Int} (h : takeZ 3 256 bs at' 0 = ((v, t), a2, 0)) : t.length ≤ 256 := by
  unfold takeZ at h
  rw [if_pos rfl] at h
  split at h
  · rw [if_pos rfl] at h
    split at h
    · injection h with h1 h2; injection h2 with h3 h4; omega
    · rename_i hm
      split at h
      · injection h with h1 h2; injection h2 with h3 h4; omega
      · injection h with h1 h2
        injection h1 with h3 h4
        subst h4
        rw [List.length_take]
        have : (leadZ 3 (bs.drop at') 256).1 ≤ 256 := by
          have e : max (256 : Int) 0 = 256 := by omega
          rw [e] at hm
          omega
        omega
  · rename_i hne
    injection h with h1 h2; injection h2 with h3 h4; exact absurd h4 hne

theorem endZ_zero {len at' : Nat} {e : Int} (h : endZ len at' e = 0) : e = 0 ∧ len ≤ at' := by
  unfold endZ at h
  split at h
  · rename_i he
    split at h
    · omega
    · exact ⟨he, by omega⟩
  · omega

/-- Bytes that are taken are the value's own. -/
theorem enc_dec (bs : List Int) (ho : Oct bs) (k i : Int) (x : List Int) (hd : decZ bs = ((k, i, x), 0)) :
    chk k i (mkStr x) = 0 ∧ encB k i (mkStr x) = bs ∧ (-9223372036854775808 ≤ i ∧ i < 9223372036854775808) ∧ (mkStr x).size ≤ 256 := by
  rcases takeZ_byte bs with ⟨rfl, ht⟩ | ⟨b, r, rfl, ht⟩
  · simp [decZ, ht, endZ] at hd
  · by_cases b0 : b = 0
    · subst b0
      simp [decZ, ht] at hd
      obtain ⟨⟨rfl, rfl, rfl⟩, he⟩ := hd
      have := (endZ_zero he).2
      simp at this
      subst this
      exact ⟨rfl, rfl, by omega, by decide⟩
    · by_cases b1 : b = 1
      · subst b1
        have hb := takeZ_bd 2 0 (1 :: r) 1 0 ho
        obtain ⟨⟨⟨u, t⟩, a2, e2⟩, ht2⟩ : ∃ t, takeZ 2 0 (1 :: r) 1 0 = t := ⟨_, rfl⟩
        rw [ht2] at hb
        simp [decZ, ht, ht2] at hd
        obtain ⟨⟨rfl, rfl, rfl⟩, he⟩ := hd
        obtain ⟨rfl, hlen⟩ := endZ_zero he
        have hr := takeZ_row ho (by omega) (by omega) ht2
        obtain ⟨u0, rfl, _, ha, hrow⟩ := hr
        simp at hlen ha hrow
        have ha2 : a2 - 1 = r.length := by omega
        rw [ha2, List.take_length] at hrow
        have hu := hb.2.1
        have hu : u < 18446744073709551616 := hu
        refine ⟨by rfl, ?_, ?_, by decide⟩
        · simp [encB, fold_unfold u u0, hrow]
        · unfold unfoldZ; split <;> omega
      · by_cases b2 : b = 2
        · subst b2
          obtain ⟨⟨⟨u, t⟩, a2, e2⟩, ht2⟩ : ∃ t, takeZ 3 256 (2 :: r) 1 0 = t := ⟨_, rfl⟩
          simp [decZ, ht, ht2] at hd
          obtain ⟨⟨rfl, rfl, rfl⟩, he⟩ := hd
          obtain ⟨rfl, hlen⟩ := endZ_zero he
          obtain ⟨ot, ha1, ha, hrow⟩ := takeZ_txt ho ht2
          have hl := takeZ_txt_len ht2
          simp at hlen ha hrow
          have ha2 : a2 - 1 = r.length := by omega
          rw [ha2, List.take_length] at hrow
          have hsz := mkStr_size t
          refine ⟨?_, ?_, by omega, by omega⟩
          · have : ¬ 256 < (mkStr t).size := by omega
            simp [chk, this]
          · simp [encB, strBs_mkStr t ot, hrow]
        · simp [decZ, ht, b0, b1, b2] at hd

end Go.Proofs.Ytljfmbjibjoiiab

namespace Go.Proofs.Ytljfmbjibjoiiab
open Go.RowKit

theorem rowGo_more (last : Nat) (top : Int) (m : List Int) : ∀ (d : List Int) (i : Nat) (u : Int), (rowGo last top d i u).2.2 = 0 → rowGo last top (d ++ m) i u = rowGo last top d i u := by
  intro d
  induction d with
  | nil => intro i u h; simp [rowGo] at h
  | cons c d ih =>
    intro i u h
    rw [List.cons_append, rowGo, rowGo]
    rw [rowGo] at h
    by_cases h1 : i + 1 = last ∧ top < c
    · rw [if_pos h1, if_pos h1]
    · rw [if_neg h1] at h ⊢
      rw [if_neg h1]
      by_cases h2 : 128 ≤ c
      · rw [if_pos h2] at h ⊢
        rw [if_pos h2]
        exact ih _ _ h
      · rw [if_neg h2, if_neg h2]

theorem leadZ_more (f n : Int) (d m : List Int) (h : (leadZ f d n).2.2 = 0) : leadZ f (d ++ m) n = leadZ f d n := by
  unfold leadZ at h ⊢
  by_cases h0 : f = 0
  · rw [if_pos h0] at h ⊢
    rw [if_pos h0]
    unfold fixZ at h ⊢
    by_cases h1 : n < 0 ∨ 8 < n
    · rw [if_pos h1] at h; simp at h
    · rw [if_neg h1] at h ⊢
      rw [if_neg h1]
      by_cases h2 : (d.length : Int) < n
      · rw [if_pos h2] at h; simp at h
      · rw [if_neg h2, if_neg (by rw [List.length_append]; omega), List.take_append_of_le_length (by omega)]
  · rw [if_neg h0] at h ⊢
    rw [if_neg h0]
    by_cases h2 : f = 2
    · rw [if_pos h2] at h ⊢
      rw [if_pos h2]
      exact rowGo_more 10 1 m d 0 0 h
    · rw [if_neg h2] at h ⊢
      rw [if_neg h2]
      exact rowGo_more 9 127 m d 0 0 h

theorem leadZ_n (n n' : Int) (d : List Int) : leadZ 3 d n = leadZ 3 d n' := by
  simp [leadZ]

theorem takeZ_more (f n : Int) (bs m : List Int) (a : Nat) (ho : Oct bs) (ha : a ≤ bs.length) (h : (takeZ f n bs a 0).2.2 = 0) : takeZ f n (bs ++ m) a 0 = takeZ f n bs a 0 := by
  unfold takeZ at h ⊢
  rw [List.drop_append_of_le_length ha]
  rw [if_pos rfl] at h ⊢
  rw [if_pos rfl]
  by_cases h0 : (leadZ f (bs.drop a) n).2.2 = 0
  · rw [leadZ_more f n _ m h0]
    rw [if_pos h0] at h ⊢
    rw [if_pos h0]
    by_cases h3 : f = 3
    · rw [if_pos h3] at h ⊢
      rw [if_pos h3]
      by_cases h4 : max n 0 < (leadZ f (bs.drop a) n).1
      · rw [if_pos h4, if_pos h4]
      · rw [if_neg h4] at h ⊢
        rw [if_neg h4]
        by_cases h5 : ((bs.drop a).length : Int) - (leadZ f (bs.drop a) n).2.1 < (leadZ f (bs.drop a) n).1
        · rw [if_pos h5] at h; simp at h
        · have h6 : ¬ (((bs.drop a ++ m).length : Int) - (leadZ f (bs.drop a) n).2.1 < (leadZ f (bs.drop a) n).1) := by rw [List.length_append]; omega
          rw [if_neg h5, if_neg h6]
          obtain ⟨k, hk, k1, k2, hv, -⟩ := row_again f n (bs.drop a) (ho.drop a) (by omega) h0
          rw [hk] at h5 ⊢
          rw [Int.toNat_natCast, List.drop_append_of_le_length k2, List.take_append_of_le_length (by rw [List.length_drop]; omega)]
    · rw [if_neg h3, if_neg h3]
  · rw [if_neg h0] at h
    exact absurd h h0

theorem takeZ_most (n n' : Int) (bs : List Int) (a : Nat) (hn : n ≤ n') (h : (takeZ 3 n bs a 0).2.2 = 0) : takeZ 3 n' bs a 0 = takeZ 3 n bs a 0 := by
  unfold takeZ at h ⊢
  rw [leadZ_n n' n]
  rw [if_pos rfl] at h ⊢
  rw [if_pos rfl]
  by_cases h0 : (leadZ 3 (bs.drop a) n).2.2 = 0
  · rw [if_pos h0, if_pos rfl] at h ⊢
    rw [if_pos h0, if_pos rfl]
    by_cases h4 : max n 0 < (leadZ 3 (bs.drop a) n).1
    · rw [if_pos h4] at h; simp at h
    · rw [if_neg h4, if_neg (by omega)]
  · rw [if_neg h0] at h
    exact absurd h h0

theorem tkf_more (f : Fk) (bs m : List Int) (a : Nat) (ho : Oct bs) (ha : a ≤ bs.length) (h : (tkf f bs a).2.2 = 0) : tkf f (bs ++ m) a = tkf f bs a := by
  cases f <;> exact takeZ_more _ _ bs m a ho ha h

theorem tkf_le (f : Fk) (bs : List Int) (a : Nat) (ho : Oct bs) (ha : a ≤ bs.length) : (tkf f bs a).2.1 ≤ bs.length := by
  cases f <;> exact takeZ_le _ _ bs a 0 ho ha

theorem tkFs_more (bs m : List Int) (ho : Oct bs) : ∀ (fs : List Fk) (x : Ins) (a : Nat) (y : Ins) (a2 : Nat), a ≤ bs.length → tkFs bs fs x a = .ok (y, a2) → tkFs (bs ++ m) fs x a = .ok (y, a2) ∧ a2 ≤ bs.length := by
  intro fs
  induction fs with
  | nil => intro x a y a2 ha h; rw [tkFs] at h ⊢; injection h with h; injection h with h1 h2; subst h1 h2; exact ⟨rfl, ha⟩
  | cons f fs ih =>
    intro x a y a2 ha h
    rw [tkFs] at h ⊢
    by_cases h0 : (tkf f bs a).2.2 = 0
    · rw [if_pos h0] at h
      rw [tkf_more f bs m a ho ha h0, if_pos h0]
      exact ih _ _ _ _ (tkf_le f bs a ho ha) h
    · rw [if_neg h0] at h; cases h

theorem tkVal_more (bs m : List Int) (ho : Oct bs) (most most' : Int) (hm : most ≤ most') (a : Nat) (ha : a ≤ bs.length) (d : Int × Int × List Int) (a2 : Nat) (h : tkVal bs most a = .ok (d, a2)) : tkVal (bs ++ m) most' a = .ok (d, a2) ∧ a2 ≤ bs.length := by
  unfold tkVal at h ⊢
  by_cases h0 : (takeZ 3 most bs a 0).2.2 = 0
  · rw [if_pos h0] at h
    have e : takeZ 3 most' (bs ++ m) a 0 = takeZ 3 most bs a 0 := by
      have e1 := takeZ_most most most' bs a hm h0
      have e2 := takeZ_more 3 most' bs m a ho ha (by rw [e1]; exact h0)
      rw [e2, e1]
    rw [e, if_pos h0]
    by_cases h1 : (decZ (takeZ 3 most bs a 0).1.2).2 = 0
    · rw [if_pos h1] at h ⊢
      refine ⟨h, ?_⟩
      injection h with h
      injection h with _ h
      rw [← h]
      exact takeZ_le 3 most bs a 0 ho ha
    · rw [if_neg h1] at h; cases h
  · rw [if_neg h0] at h; cases h

theorem tkIns_more (bs m : List Int) (ho : Oct bs) (most most' : Int) (hm : most ≤ most') (a : Nat) (ha : a ≤ bs.length) (y : Ins) (a2 : Nat) (h : tkIns bs most a = .ok (y, a2)) : tkIns (bs ++ m) most' a = .ok (y, a2) ∧ a2 ≤ bs.length := by
  unfold tkIns at h ⊢
  by_cases h0 : (takeZ 0 1 bs a 0).2.2 = 0
  · rw [if_pos h0] at h
    rw [takeZ_more 0 1 bs m a ho ha h0, if_pos h0]
    have hle := takeZ_le 0 1 bs a 0 ho ha
    by_cases h1 : 1 ≤ (takeZ 0 1 bs a 0).1.1 ∧ (takeZ 0 1 bs a 0).1.1 ≤ 16
    · rw [if_pos h1] at h ⊢
      cases hT : tkFs bs (opF (opN (takeZ 0 1 bs a 0).1.1)) (zIns (takeZ 0 1 bs a 0).1.1) (takeZ 0 1 bs a 0).2.1 with
      | error E => rw [hT] at h; cases h
      | ok r =>
        obtain ⟨x, a3⟩ := r
        obtain ⟨e1, e2⟩ := tkFs_more bs m ho _ _ _ _ _ hle hT
        rw [hT] at h
        rw [e1]
        unfold tkAfter at h ⊢
        dsimp only at h ⊢
        by_cases hv : (opN (takeZ 0 1 bs a 0).1.1 == 1) = true
        · rw [if_pos hv] at h ⊢
          cases hV : tkVal bs most a3 with
          | error E => rw [hV] at h; cases h
          | ok r =>
            obtain ⟨d, a4⟩ := r
            obtain ⟨f1, f2⟩ := tkVal_more bs m ho most most' hm a3 e2 d a4 hV
            rw [hV] at h
            rw [f1]
            refine ⟨h, ?_⟩
            injection h with h
            injection h with _ h
            rw [← h]; exact f2
        · rw [if_neg hv] at h ⊢
          refine ⟨h, ?_⟩
          injection h with h
          injection h with _ h
          rw [← h]; exact e2
    · rw [if_neg h1] at h; cases h
  · rw [if_neg h0] at h; cases h

theorem tkCode_more (bs m : List Int) (ho : Oct bs) (most most' : Int) (hm : most ≤ most') : ∀ (n a : Nat) (xs : List Ins) (a2 : Nat), a ≤ bs.length → tkCode bs most n a = .ok (xs, a2) → tkCode (bs ++ m) most' n a = .ok (xs, a2) ∧ a2 ≤ bs.length := by
  intro n
  induction n with
  | zero => intro a xs a2 ha h; rw [tkCode] at h ⊢; refine ⟨h, ?_⟩; injection h with h; injection h with _ h; rw [← h]; exact ha
  | succ n ih =>
    intro a xs a2 ha h
    rw [tkCode] at h ⊢
    cases hI : tkIns bs most a with
    | error E => rw [hI] at h; cases h
    | ok r =>
      obtain ⟨x, a3⟩ := r
      obtain ⟨e1, e2⟩ := tkIns_more bs m ho most most' hm a ha x a3 hI
      rw [hI] at h
      rw [e1]
      dsimp only at h ⊢
      cases hC : tkCode bs most n a3 with
      | error E => rw [hC] at h; cases h
      | ok r =>
        obtain ⟨ys, a4⟩ := r
        obtain ⟨f1, f2⟩ := ih a3 ys a4 e2 hC
        rw [hC] at h
        rw [f1]
        refine ⟨h, ?_⟩
        injection h with h
        injection h with _ h
        rw [← h]; exact f2

theorem takeZ_err (f n : Int) (bs : List Int) (a : Nat) (e : Int) (h : (takeZ f n bs a e).2.2 = 0) : e = 0 := by
  unfold takeZ at h
  by_cases he : e = 0
  · exact he
  · rw [if_neg he] at h
    exact absurd h he

/-- A procedure read, in plain words. -/
theorem tkProc_ok (bs : List Int) (nm : List Int) (ar : Int) (xs : List Ins) (h : tkProc bs = .ok (nm, ar, xs)) :
    ∃ u1 a1 t2 a2 n t3 a3 a4, takeZ 3 32 bs 0 0 = ((u1, nm), a1, 0) ∧ takeZ 1 0 bs a1 0 = ((ar, t2), a2, 0) ∧ takeZ 1 0 bs a2 0 = ((n, t3), a3, 0) ∧ n ≤ 64 ∧ tkCode bs bs.length n.toNat a3 = .ok (xs, a4) ∧ endZ bs.length a4 0 = 0 := by
  unfold tkProc at h
  obtain ⟨⟨⟨u1, t1⟩, a1, e1⟩, ht1⟩ : ∃ t, takeZ 3 32 bs 0 0 = t := ⟨_, rfl⟩
  rw [ht1] at h
  dsimp only at h
  obtain ⟨⟨⟨u2, t2⟩, a2, e2⟩, ht2⟩ : ∃ t, takeZ 1 0 bs a1 e1 = t := ⟨_, rfl⟩
  rw [ht2] at h
  dsimp only at h
  obtain ⟨⟨⟨u3, t3⟩, a3, e3⟩, ht3⟩ : ∃ t, takeZ 1 0 bs a2 e2 = t := ⟨_, rfl⟩
  rw [ht3] at h
  dsimp only at h
  by_cases h3 : e3 = 0
  · subst h3
    have z2 : e2 = 0 := takeZ_err 1 0 bs a2 e2 (by rw [ht3])
    subst z2
    have z1 : e1 = 0 := takeZ_err 1 0 bs a1 e1 (by rw [ht2])
    subst z1
    rw [if_pos rfl] at h
    by_cases h64 : u3 ≤ 64
    · rw [if_pos h64] at h
      cases hC : tkCode bs (bs.length : Int) u3.toNat a3 with
      | error E => rw [hC] at h; cases h
      | ok r =>
        obtain ⟨ys, a4⟩ := r
        rw [hC] at h
        unfold tkEnd at h
        dsimp only at h
        by_cases hE : endZ bs.length a4 0 = 0
        · rw [if_pos hE] at h
          injection h with h
          injection h with h1 h
          injection h with h2 h4
          subst h1 h2 h4
          exact ⟨u1, a1, t2, a2, u3, t3, a3, a4, ht1, ht2, ht3, h64, hC, hE⟩
        · rw [if_neg hE] at h; cases h
    · rw [if_neg h64] at h; cases h
  · rw [if_neg h3] at h; cases h

/-- Something behind: ErrForm. -/
theorem tkProc_more (bs m : List Int) (ho : Oct bs) (hm : m ≠ []) (nm : List Int) (ar : Int) (xs : List Ins) (h : tkProc bs = .ok (nm, ar, xs)) : tkProc (bs ++ m) = .error 3 := by
  obtain ⟨u1, a1, t2, a2, n, t3, a3, a4, h1, h2, h3, h64, hC, hE⟩ := tkProc_ok bs nm ar xs h
  have l1 : a1 ≤ bs.length := by have := takeZ_le 3 32 bs 0 0 ho (Nat.zero_le _); rw [h1] at this; exact this
  have l2 : a2 ≤ bs.length := by have := takeZ_le 1 0 bs a1 0 ho l1; rw [h2] at this; exact this
  have l3 : a3 ≤ bs.length := by have := takeZ_le 1 0 bs a2 0 ho l2; rw [h3] at this; exact this
  have g1 := takeZ_more 3 32 bs m 0 ho (Nat.zero_le _) (by rw [h1])
  have g2 := takeZ_more 1 0 bs m a1 ho l1 (by rw [h2])
  have g3 := takeZ_more 1 0 bs m a2 ho l2 (by rw [h3])
  have hml : 0 < m.length := List.length_pos_iff.2 hm
  obtain ⟨g4, l4⟩ := tkCode_more bs m ho (bs.length : Int) ((bs ++ m).length : Int) (by rw [List.length_append]; omega) _ _ _ _ l3 hC
  rw [h1] at g1
  rw [h2] at g2
  rw [h3] at g3
  unfold tkProc
  rw [g1]
  dsimp only
  rw [g2]
  dsimp only
  rw [g3]
  dsimp only
  rw [if_pos rfl, if_pos h64, g4]
  unfold tkEnd
  dsimp only
  have : endZ (bs ++ m).length a4 0 = 3 := by
    unfold endZ
    rw [if_pos rfl, if_pos (by rw [List.length_append]; omega)]
  rw [this, if_neg (by decide)]

end Go.Proofs.Ytljfmbjibjoiiab

namespace Go.Proofs.Ytljfmbjibjoiiab
open Go.RowKit

/-- A part of a list. -/
def part (bs : List Int) (a b : Nat) : List Int := (bs.drop a).take (b - a)

theorem part_add (bs : List Int) (a b c : Nat) (h1 : a ≤ b) (h2 : b ≤ c) : part bs a b ++ part bs b c = part bs a c := by
  unfold part
  rw [show c - a = (b - a) + (c - b) by omega, List.take_add, List.drop_drop, show a + (b - a) = b by omega]

theorem part_nil (bs : List Int) (a : Nat) : part bs a a = [] := by simp [part]

theorem takeZ_byte_part (bs : List Int) (a : Nat) (_ho : Oct bs) (v : Int) (t : List Int) (a2 : Nat) (h : takeZ 0 1 bs a 0 = ((v, t), a2, 0)) : part bs a a2 = [v] ∧ a ≤ a2 := by
  unfold takeZ leadZ fixZ at h
  simp only [if_true, show ¬ ((1 : Int) < 0 ∨ (8 : Int) < 1) by omega, if_false, show ¬ ((0 : Int) = 3) by omega] at h
  by_cases h2 : ((bs.drop a).length : Int) < 1
  · rw [if_pos h2] at h; simp at h
  · rw [if_neg h2] at h
    simp at h
    obtain ⟨⟨h3, _⟩, h4⟩ := h
    subst h4
    cases hd : bs.drop a with
    | nil => rw [hd] at h2; simp at h2
    | cons c cs =>
      rw [hd] at h3
      simp [leZ] at h3
      subst h3
      refine ⟨?_, by omega⟩
      unfold part
      rw [hd, show a + 1 - a = 1 by omega]
      rfl

theorem tkf_part (f : Fk) (bs : List Int) (a : Nat) (ho : Oct bs) (v : Int) (t : List Int) (a2 : Nat) (h : tkf f bs a = ((v, t), a2, 0)) : fldV f v = part bs a a2 ∧ a ≤ a2 := by
  have hb : takeZ 0 1 bs a 0 = ((v, t), a2, 0) → [v] = part bs a a2 ∧ a ≤ a2 := fun h => ⟨(takeZ_byte_part bs a ho v t a2 h).1.symm, (takeZ_byte_part bs a ho v t a2 h).2⟩
  have hn : takeZ 1 0 bs a 0 = ((v, t), a2, 0) → rowF 10 v = part bs a a2 ∧ a ≤ a2 := fun h => ⟨(takeZ_row ho (by decide) (by decide) h).2.2.2.2, (takeZ_row ho (by decide) (by decide) h).2.2.1⟩
  cases f
  · exact hb h
  · exact hb h
  · exact hb h
  · exact hn h
  · exact hn h
  · exact hn h
  · exact hn h

theorem fk_same (f : Fk) (v : Int) (x : Ins) : f.get (f.set v x) = v := by cases f <;> rfl

theorem fk_rest (f : Fk) (v : Int) (x : Ins) : (f.set v x).op = x.op ∧ (f.set v x).k = x.k ∧ (f.set v x).i = x.i ∧ (f.set v x).t = x.t := by cases f <;> exact ⟨rfl, rfl, rfl, rfl⟩

theorem tkFs_part (bs : List Int) (ho : Oct bs) : ∀ (fs : List Fk) (x : Ins) (a : Nat) (y : Ins) (a2 : Nat), (fs.map Fk.pos).Nodup → tkFs bs fs x a = .ok (y, a2) →
    fs.flatMap (fun f => fldV f (f.get y)) = part bs a a2 ∧ a ≤ a2 ∧ (∀ g : Fk, g.pos ∉ fs.map Fk.pos → g.get y = g.get x) ∧ y.op = x.op ∧ y.k = x.k ∧ y.i = x.i ∧ y.t = x.t := by
  intro fs
  induction fs with
  | nil =>
    intro x a y a2 _ h
    rw [tkFs] at h
    injection h with h
    injection h with h1 h2
    subst h1 h2
    exact ⟨by simp [part_nil], Nat.le_refl _, fun _ _ => rfl, rfl, rfl, rfl, rfl⟩
  | cons f fs ih =>
    intro x a y a2 hn h
    rw [List.map_cons, List.nodup_cons] at hn
    rw [tkFs] at h
    obtain ⟨⟨⟨v, t⟩, a3, e3⟩, htk⟩ : ∃ t, tkf f bs a = t := ⟨_, rfl⟩
    rw [htk] at h
    dsimp only at h
    by_cases h0 : e3 = 0
    · subst h0
      rw [if_pos rfl] at h
      obtain ⟨p1, p2⟩ := tkf_part f bs a ho v t a3 htk
      obtain ⟨q1, q2, q3, q4, q5, q6, q7⟩ := ih _ _ _ _ hn.2 h
      have hf : f.get y = v := by rw [q3 f hn.1]; exact fk_same f v x
      obtain ⟨r1, r2, r3, r4⟩ := fk_rest f v x
      refine ⟨?_, by omega, ?_, q4.trans r1, q5.trans r2, q6.trans r3, q7.trans r4⟩
      · rw [List.flatMap_cons, hf, p1, q1, part_add bs a a3 a2 p2 q2]
      · intro g hg
        rw [List.map_cons, List.mem_cons, not_or] at hg
        rw [q3 g hg.2]
        exact fk_other f g v x hg.1
    · rw [if_neg h0] at h; cases h

theorem decZ_part (t : List Int) (ho : Oct t) (h : (decZ t).2 = 0) : encB (decZ t).1.1 (decZ t).1.2.1 (mkStr (decZ t).1.2.2) = t ∧ (-9223372036854775808 ≤ (decZ t).1.2.1 ∧ (decZ t).1.2.1 < 9223372036854775808) := by
  have h1 : decZ t = (((decZ t).1.1, (decZ t).1.2.1, (decZ t).1.2.2), 0) := by
    generalize decZ t = d at h
    obtain ⟨⟨k, i, x⟩, e⟩ := d
    dsimp only at h ⊢
    rw [h]
  obtain ⟨_, e2, e3, _⟩ := enc_dec t ho _ _ _ h1
  exact ⟨e2, e3⟩

theorem tkVal_part (bs : List Int) (ho : Oct bs) (most : Int) (a : Nat) (d : Int × Int × List Int) (a2 : Nat) (h : tkVal bs most a = .ok (d, a2)) :
    rowF 10 ((encB d.1 d.2.1 (mkStr d.2.2)).length : Nat) ++ encB d.1 d.2.1 (mkStr d.2.2) = part bs a a2 ∧ a ≤ a2 ∧ (-9223372036854775808 ≤ d.2.1 ∧ d.2.1 < 9223372036854775808) := by
  unfold tkVal at h
  obtain ⟨⟨⟨v, t⟩, a3, e3⟩, htk⟩ : ∃ t, takeZ 3 most bs a 0 = t := ⟨_, rfl⟩
  rw [htk] at h
  dsimp only at h
  by_cases h0 : e3 = 0
  · subst h0
    rw [if_pos rfl] at h
    obtain ⟨ot, q1, _, q2⟩ := takeZ_txt ho htk
    by_cases h1 : (decZ t).2 = 0
    · rw [if_pos h1] at h
      injection h with h
      injection h with h2 h3
      subst h2 h3
      obtain ⟨e1, e2⟩ := decZ_part t ot h1
      rw [e1]
      exact ⟨q2, q1, e2⟩
    · rw [if_neg h1] at h; cases h
  · rw [if_neg h0] at h; cases h

theorem insBx_of (op : Int) (x : Ins) (h : x.op = op) : insBx x = [op] ++ (opF (opN op)).flatMap (fun f => fldV f (f.get x)) ++ (if (opN op == 1) = true then valB x else []) := by
  unfold insBx insB
  rw [h]

theorem tkIns_part (bs : List Int) (ho : Oct bs) (most : Int) (a : Nat) (y : Ins) (a2 : Nat) (h : tkIns bs most a = .ok (y, a2)) : insBx y = part bs a a2 ∧ a ≤ a2 ∧ InsOk y := by
  unfold tkIns at h
  obtain ⟨⟨⟨op, u⟩, a1, e1⟩, htk⟩ : ∃ t, takeZ 0 1 bs a 0 = t := ⟨_, rfl⟩
  rw [htk] at h
  dsimp only at h
  by_cases h0 : e1 = 0
  · subst h0
    rw [if_pos rfl] at h
    obtain ⟨p1, p2⟩ := takeZ_byte_part bs a ho op u a1 htk
    by_cases h1 : 1 ≤ op ∧ op ≤ 16
    · rw [if_pos h1] at h
      cases hT : tkFs bs (opF (opN op)) (zIns op) a1 with
      | error E => rw [hT] at h; cases h
      | ok r =>
        obtain ⟨x, a3⟩ := r
        obtain ⟨q1, q2, _, q4, q5, q6, q7⟩ := tkFs_part bs ho _ _ _ _ _ (opF_nodup _) hT
        rw [hT] at h
        unfold tkAfter at h
        dsimp only at h
        by_cases hv : (opN op == 1) = true
        · rw [if_pos hv] at h
          cases hV : tkVal bs most a3 with
          | error E => rw [hV] at h; cases h
          | ok r =>
            obtain ⟨d, a4⟩ := r
            obtain ⟨s1, s2, s3⟩ := tkVal_part bs ho most a3 d a4 hV
            rw [hV] at h
            injection h with h
            injection h with h2 h3
            subst h3
            have hop : y.op = op := by rw [← h2]; exact q4
            have hg : ∀ f : Fk, f.get y = f.get x := by intro f; rw [← h2]; cases f <;> rfl
            refine ⟨?_, by omega, by rw [← h2]; exact s3⟩
            rw [insBx_of op y hop, if_pos hv]
            have e1 : (opF (opN op)).flatMap (fun f => fldV f (f.get y)) = part bs a1 a3 := by
              rw [← q1]
              congr 1
              funext f
              rw [hg f]
            have e2 : valB y = part bs a3 a4 := by rw [← h2]; exact s1
            rw [e1, e2, ← p1, part_add bs a a1 a3 p2 q2, part_add bs a a3 a4 (by omega) s2]
        · rw [if_neg hv] at h
          injection h with h
          injection h with h2 h3
          subst h2 h3
          refine ⟨?_, by omega, by rw [InsOk, q6]; show -9223372036854775808 ≤ (0 : Int) ∧ (0 : Int) < 9223372036854775808; omega⟩
          rw [insBx_of op x q4, if_neg hv, q1, ← p1, part_add bs a a1 a3 p2 q2, List.append_nil]
    · rw [if_neg h1] at h; cases h
  · rw [if_neg h0] at h; cases h

theorem tkCode_part (bs : List Int) (ho : Oct bs) (most : Int) : ∀ (n a : Nat) (xs : List Ins) (a2 : Nat), tkCode bs most n a = .ok (xs, a2) → xs.flatMap insBx = part bs a a2 ∧ a ≤ a2 ∧ (∀ x ∈ xs, InsOk x) ∧ xs.length = n := by
  intro n
  induction n with
  | zero => intro a xs a2 h; rw [tkCode] at h; injection h with h; injection h with h1 h2; subst h1 h2; exact ⟨by simp [part_nil], Nat.le_refl _, fun x hx => by simp at hx, rfl⟩
  | succ n ih =>
    intro a xs a2 h
    rw [tkCode] at h
    cases hI : tkIns bs most a with
    | error E => rw [hI] at h; cases h
    | ok r =>
      obtain ⟨x, a3⟩ := r
      obtain ⟨p1, p2, p3⟩ := tkIns_part bs ho most a x a3 hI
      rw [hI] at h
      dsimp only at h
      cases hC : tkCode bs most n a3 with
      | error E => rw [hC] at h; cases h
      | ok r =>
        obtain ⟨ys, a4⟩ := r
        obtain ⟨q1, q2, q3, q4⟩ := ih a3 ys a4 hC
        rw [hC] at h
        injection h with h
        injection h with h1 h2
        subst h1 h2
        refine ⟨?_, by omega, ?_, by rw [List.length_cons, q4]⟩
        · rw [List.flatMap_cons, p1, q1, part_add bs a a3 a4 p2 q2]
        · intro y hy
          rcases List.mem_cons.1 hy with rfl | hy
          · exact p3
          · exact q3 y hy

/-- What is decoded is encoded to the same bytes. -/
theorem tkProc_bytes (bs : List Int) (ho : Oct bs) (nm : List Int) (ar : Int) (xs : List Ins) (h : tkProc bs = .ok (nm, ar, xs)) : procB (mkStr nm) ar xs = bs ∧ (∀ x ∈ xs, InsOk x) := by
  obtain ⟨u1, a1, t2, a2, n, t3, a3, a4, h1, h2, h3, h64, hC, hE⟩ := tkProc_ok bs nm ar xs h
  obtain ⟨o1, s1, s2, s3⟩ := takeZ_txt ho h1
  obtain ⟨r1, _, r2, _, r3⟩ := takeZ_row ho (by decide) (by decide) h2
  obtain ⟨v1, _, v2, _, v3⟩ := takeZ_row ho (by decide) (by decide) h3
  obtain ⟨c1, c2, c3, c4⟩ := tkCode_part bs ho _ _ _ _ _ hC
  have hend := (endZ_zero hE).2
  refine ⟨?_, c3⟩
  unfold procB
  rw [strBs_mkStr nm o1, c1, s3, r3, c4]
  have : ((n.toNat : Nat) : Int) = n := by omega
  rw [this, v3]
  show part bs 0 a1 ++ part bs a1 a2 ++ part bs a2 a3 ++ part bs a3 a4 = bs
  rw [part_add bs 0 a1 a2 s1 r2, part_add bs 0 a2 a3 (by omega) v2, part_add bs 0 a3 a4 (by omega) c2]
  unfold part
  rw [List.drop_zero, List.take_of_length_le (by omega)]

end Go.Proofs.Ytljfmbjibjoiiab

namespace Go.Proofs.Ytljfmbjibjoiiab
open Go.RowKit

theorem take_num (ps rest : List Int) (v : Int) (h0 : 0 ≤ v) (h1 : v < 9223372036854775808) : takeZ 1 0 (ps ++ (rowF 10 v ++ rest)) ps.length 0 = ((v, []), ps.length + (rowF 10 v).length, 0) :=
  takeZ_laid 1 0 ps (rowF 10 v) rest v (by decide) (lead_num 1 (.inl rfl) v 0 rest h0 h1)

theorem take_byte (ps rest : List Int) (v : Int) (h0 : 0 ≤ v) (h1 : v < 256) : takeZ 0 1 (ps ++ ([v] ++ rest)) ps.length 0 = ((v, []), ps.length + 1, 0) := by
  have h := lead_fix v 1 rest h0 (by decide) (by decide)
  have e : fixedB (1 : Int).toNat v = [v] := by simp [fixedB, List.range_succ]; omega
  have e2 : v % 256 ^ (1 : Int).toNat = v := by simp; omega
  rw [e, e2] at h
  exact takeZ_laid 0 1 ps [v] rest v (by decide) h

theorem tkf_laid (f : Fk) (ps rest : List Int) (v : Int) (h0 : 0 ≤ v) (h1 : v < 256) : tkf f (ps ++ (fldV f v ++ rest)) ps.length = ((v, []), ps.length + (fldV f v).length, 0) := by
  have hb := take_byte ps rest v h0 h1
  have hn := take_num ps rest v h0 (by omega)
  cases f
  · exact hb
  · exact hb
  · exact hb
  · exact hn
  · exact hn
  · exact hn
  · exact hn

/-- What is struck out of x outside the fields fs. -/
theorem tkFs_laid (y : Ins) : ∀ (fs : List Fk) (x : Ins) (ps rest : List Int), (∀ f ∈ fs, 0 ≤ f.get y ∧ f.get y < 256) →
    tkFs (ps ++ (fs.flatMap (fun f => fldV f (f.get y)) ++ rest)) fs x ps.length = .ok (fs.foldl (fun x f => f.set (f.get y) x) x, ps.length + (fs.flatMap (fun f => fldV f (f.get y))).length) := by
  intro fs
  induction fs with
  | nil => intro x ps rest _; simp [tkFs]
  | cons f fs ih =>
    intro x ps rest h
    have hf := h f (by simp)
    have e : ps ++ ((f :: fs).flatMap (fun f => fldV f (f.get y)) ++ rest) = ps ++ (fldV f (f.get y) ++ (fs.flatMap (fun f => fldV f (f.get y)) ++ rest)) := by simp [List.append_assoc]
    rw [tkFs, e, tkf_laid f ps _ _ hf.1 hf.2]
    dsimp only
    rw [if_pos rfl]
    have e2 : ps ++ (fldV f (f.get y) ++ (fs.flatMap (fun f => fldV f (f.get y)) ++ rest)) = (ps ++ fldV f (f.get y)) ++ (fs.flatMap (fun f => fldV f (f.get y)) ++ rest) := by simp [List.append_assoc]
    have e3 : ps.length + (fldV f (f.get y)).length = (ps ++ fldV f (f.get y)).length := by rw [List.length_append]
    rw [e2, e3, ih _ _ _ (fun g hg => h g (by simp [hg]))]
    simp [Nat.add_assoc]

/-- A checked instruction has nothing beside its fields. -/
theorem fields_only (ar bh : Int) (fs : List Fk) (vv : Bool) (x : Ins) (h : opErr fs vv x ar bh = 0) (hd : (fs.map Fk.pos).Nodup) :
    ∃ z : Ins, chkF ar bh fs x = some z ∧ z.a = 0 ∧ z.b = 0 ∧ z.c = 0 ∧ z.n = 0 ∧ (vv = true ∨ x.k = 0 ∧ x.i = 0 ∧ x.t = emp) ∧ chk x.k x.i x.t = 0 := by
  have _ := hd
  unfold opErr at h
  cases hc : chkF ar bh fs x with
  | none => rw [hc] at h; simp at h
  | some z =>
    rw [hc] at h
    dsimp only at h
    have hk : ∀ (fs : List Fk) (x z : Ins), chkF ar bh fs x = some z → z.k = x.k ∧ z.i = x.i ∧ z.t = x.t := by
      intro fs
      induction fs with
      | nil => intro x z h; rw [chkF] at h; injection h with h; rw [h]; exact ⟨rfl, rfl, rfl⟩
      | cons f fs ih =>
        intro x z h
        rw [chkF] at h
        split at h
        · obtain ⟨e1, e2, e3⟩ := ih _ _ h
          obtain ⟨_, r2, r3, r4⟩ := fk_rest f 0 x
          exact ⟨e1.trans r2, e2.trans r3, e3.trans r4⟩
        · cases h
    obtain ⟨k1, k2, k3⟩ := hk fs x z hc
    split at h
    · rename_i hz
      refine ⟨z, rfl, hz.1, hz.2.1, hz.2.2.1, hz.2.2.2.1, ?_, h⟩
      rw [k1, k2, k3] at hz
      exact hz.2.2.2.2
    · omega

/-- The fields put back. -/
theorem fold_back (i : Nat) (x : Ins) (ar bh : Int) (z : Ins) (h : chkF ar bh (opF i) x = some z) (ha : z.a = 0) (hb : z.b = 0) (hc : z.c = 0) (hn : z.n = 0) (op k j : Int) (t : ByteArray) :
    (opF i).foldl (fun y f => f.set (f.get x) y) ⟨op, 0, 0, 0, 0, k, j, t⟩ = ⟨op, x.a, x.b, x.c, x.n, k, j, t⟩ := by
  unfold opF at h ⊢
  split at h
  all_goals (
    simp only [chkF] at h
    repeat' split at h
    all_goals first | (cases h; done) | skip
    injection h with h
    subst h
    (try simp only [Fk.set] at ha hb hc hn)
    simp [List.foldl, Fk.get, Fk.set, ha, hb, hc, hn])

theorem tkVal_laid (most : Int) (ps rest : List Int) (k i : Int) (s : ByteArray) (h0 : -9223372036854775808 ≤ i) (h1 : i < 9223372036854775808) (hc : chk k i s = 0) (hm : ((encB k i s).length : Int) ≤ most) :
    tkVal (ps ++ (rowF 10 ((encB k i s).length : Nat) ++ (encB k i s ++ rest))) most ps.length = .ok ((k, i, strBs s), ps.length + ((rowF 10 ((encB k i s).length : Nat)).length + (encB k i s).length)) := by
  have hl := (encB_len k i s hc h0 h1).1
  have e := takeZ_text most ps (encB k i s) rest hm (by omega)
  unfold tkVal
  rw [e]
  dsimp only
  rw [if_pos rfl, dec_enc k i s h0 h1 hc]
  dsimp only
  rw [if_pos rfl]

theorem insBx_eq (x : Ins) : insBx x = [x.op] ++ ((opF (opN x.op)).flatMap (fun f => fldV f (f.get x)) ++ (if (opN x.op == 1) = true then valB x else [])) := by
  unfold insBx insB
  rw [List.append_assoc]

theorem tkIns_laid (most : Int) (ps rest : List Int) (x : Ins) (ar bh : Int) (he : insErr x ar bh = 0) (a0 : 0 ≤ ar) (a1 : ar ≤ 16) (hb : bh ≤ 200) (hi : InsOk x) (hm : ((insBx x).length : Int) ≤ most) :
    tkIns (ps ++ (insBx x ++ rest)) most ps.length = .ok (x, ps.length + (insBx x).length) := by
  obtain ⟨hop, hf, hc⟩ := good_ins x ar bh he a0 a1 hb
  have he2 := he
  unfold insErr at he2
  rw [if_pos hop] at he2
  obtain ⟨z, hz, za, zb, zc, zn, hv, _⟩ := fields_only ar bh _ _ x he2 (opF_nodup _)
  rw [insBx_eq] at hm ⊢
  have e1 : ps ++ ([x.op] ++ ((opF (opN x.op)).flatMap (fun f => fldV f (f.get x)) ++ (if (opN x.op == 1) = true then valB x else [])) ++ rest) = ps ++ ([x.op] ++ ((opF (opN x.op)).flatMap (fun f => fldV f (f.get x)) ++ ((if (opN x.op == 1) = true then valB x else []) ++ rest))) := by simp [List.append_assoc]
  have e2 : ps ++ ([x.op] ++ ((opF (opN x.op)).flatMap (fun f => fldV f (f.get x)) ++ ((if (opN x.op == 1) = true then valB x else []) ++ rest))) = (ps ++ [x.op]) ++ ((opF (opN x.op)).flatMap (fun f => fldV f (f.get x)) ++ ((if (opN x.op == 1) = true then valB x else []) ++ rest)) := by simp [List.append_assoc]
  have e3 : (ps ++ [x.op]) ++ ((opF (opN x.op)).flatMap (fun f => fldV f (f.get x)) ++ ((if (opN x.op == 1) = true then valB x else []) ++ rest)) = (ps ++ [x.op] ++ (opF (opN x.op)).flatMap (fun f => fldV f (f.get x))) ++ ((if (opN x.op == 1) = true then valB x else []) ++ rest) := by simp [List.append_assoc]
  have t1 := take_byte ps ((opF (opN x.op)).flatMap (fun f => fldV f (f.get x)) ++ ((if (opN x.op == 1) = true then valB x else []) ++ rest)) x.op (by omega) (by omega)
  have t2 := tkFs_laid x (opF (opN x.op)) (zIns x.op) (ps ++ [x.op]) ((if (opN x.op == 1) = true then valB x else []) ++ rest) hf
  unfold tkIns
  rw [e1, t1]
  dsimp only
  rw [if_pos rfl, if_pos hop, e2, show ps.length + 1 = (ps ++ [x.op]).length by simp, t2]
  have e4 : (opF (opN x.op)).foldl (fun y f => f.set (f.get x) y) (zIns x.op) = ⟨x.op, x.a, x.b, x.c, x.n, 0, 0, emp⟩ := fold_back _ x ar bh z hz za zb zc zn x.op 0 0 emp
  rw [e4]
  unfold tkAfter
  dsimp only
  by_cases hv1 : (opN x.op == 1) = true
  · rw [if_pos hv1]
    have hlen : ((encB x.k x.i x.t).length : Int) ≤ most := by
      rw [if_pos hv1] at hm
      simp only [valB, List.length_append] at hm
      omega
    have t3 := tkVal_laid most (ps ++ [x.op] ++ (opF (opN x.op)).flatMap (fun f => fldV f (f.get x))) rest x.k x.i x.t hi.1 hi.2 hc hlen
    rw [e3, if_pos hv1]
    have e5 : valB x ++ rest = rowF 10 ((encB x.k x.i x.t).length : Nat) ++ (encB x.k x.i x.t ++ rest) := by simp [valB, List.append_assoc]
    rw [e5, show (ps ++ [x.op]).length + ((opF (opN x.op)).flatMap (fun f => fldV f (f.get x))).length = (ps ++ [x.op] ++ (opF (opN x.op)).flatMap (fun f => fldV f (f.get x))).length from List.length_append.symm, t3]
    dsimp only
    rw [mkStr_strBs]
    congr 2
    simp [valB]
    omega
  · rw [if_neg hv1, if_neg hv1]
    rcases hv with hv | ⟨v1, v2, v3⟩
    · exact absurd hv hv1
    · congr 2
      · obtain ⟨o, a, b, c, n, k, i, t⟩ := x
        dsimp only at v1 v2 v3 ⊢
        rw [v1, v2, v3]
      · simp
        omega

theorem tkCode_laid (most : Int) (ar : Int) (len : Nat) (a0 : 0 ≤ ar) (a1 : ar ≤ 16) (hl : len ≤ 64) : ∀ (xs : List Ins) (j : Nat) (ps rest : List Int), (∀ (q : Nat) (x : Ins), xs[q]? = some x → insErr x ar ((len : Int) - 1 - (j + q : Nat)) = 0) → (∀ x ∈ xs, InsOk x) → (∀ x ∈ xs, ((insBx x).length : Int) ≤ most) →
    tkCode (ps ++ (xs.flatMap insBx ++ rest)) most xs.length ps.length = .ok (xs, ps.length + (xs.flatMap insBx).length) := by
  intro xs
  induction xs with
  | nil => intro j ps rest _ _ _; simp [tkCode]
  | cons x xs ih =>
    intro j ps rest he hi hm
    have e : ps ++ ((x :: xs).flatMap insBx ++ rest) = ps ++ (insBx x ++ (xs.flatMap insBx ++ rest)) := by simp [List.append_assoc]
    have t := tkIns_laid most ps (xs.flatMap insBx ++ rest) x ar _ (he 0 x (by simp)) a0 a1 (by omega) (hi x (by simp)) (hm x (by simp))
    rw [List.length_cons, tkCode, e, t]
    dsimp only
    have e2 : ps ++ (insBx x ++ (xs.flatMap insBx ++ rest)) = (ps ++ insBx x) ++ (xs.flatMap insBx ++ rest) := by simp [List.append_assoc]
    have e3 : ps.length + (insBx x).length = (ps ++ insBx x).length := by rw [List.length_append]
    rw [e2, e3, ih (j + 1) _ _ (fun q y hy => by have := he (q + 1) y (by simpa using hy); rw [show j + 1 + q = j + (q + 1) by omega]; exact this) (fun y hy => hi y (by simp [hy])) (fun y hy => hm y (by simp [hy]))]
    dsimp only
    simp [Nat.add_assoc]

theorem flat_mem_len (xs : List Ins) (x : Ins) (h : x ∈ xs) : (insBx x).length ≤ (xs.flatMap insBx).length := by
  induction xs with
  | nil => simp at h
  | cons y xs ih =>
    rw [List.flatMap_cons, List.length_append]
    rcases List.mem_cons.1 h with rfl | h
    · omega
    · have := ih h; omega

/-- There and back: P6.4. -/
theorem dec_procB (nm : ByteArray) (ar : Int) (xs : List Ins) (hg : (procChk nm ar xs).2 = 0) (hi : ∀ x ∈ xs, InsOk x) : decP (procB nm ar xs) = .ok (strBs nm, ar, xs) := by
  have g := good_of hg
  have hsz := g.size
  have hsl := strBs_len nm
  have hlen := g.len
  have hbl : ∀ x ∈ xs, ((insBx x).length : Int) ≤ ((procB nm ar xs).length : Int) := by
    intro x hx
    have := flat_mem_len xs x hx
    unfold procB
    simp only [List.length_append]
    omega
  have t1 := takeZ_text 32 [] (strBs nm) (rowF 10 ar ++ (rowF 10 (xs.length : Int) ++ (xs.flatMap insBx ++ []))) (by omega) (by omega)
  have t2 := take_num (rowF 10 (strBs nm).length ++ strBs nm) (rowF 10 (xs.length : Int) ++ (xs.flatMap insBx ++ [])) ar g.a0 (by have := g.a1; omega)
  have t3 := take_num (rowF 10 (strBs nm).length ++ strBs nm ++ rowF 10 ar) (xs.flatMap insBx ++ []) (xs.length : Int) (by omega) (by omega)
  have t4 := tkCode_laid ((procB nm ar xs).length : Int) ar xs.length g.a0 g.a1 hlen xs 0 (rowF 10 (strBs nm).length ++ strBs nm ++ rowF 10 ar ++ rowF 10 (xs.length : Int)) [] (fun q x hx => by rw [Nat.zero_add]; exact g.ins q x hx) hi hbl
  have eB : ∀ a b : List Int, procB nm ar xs = a → procB nm ar xs = b → a = b := fun a b h1 h2 => h1.symm.trans h2
  have p1 : procB nm ar xs = [] ++ (rowF 10 (strBs nm).length ++ (strBs nm ++ (rowF 10 ar ++ (rowF 10 (xs.length : Int) ++ (xs.flatMap insBx ++ []))))) := by unfold procB; simp [List.append_assoc]
  have p2 : procB nm ar xs = (rowF 10 (strBs nm).length ++ strBs nm) ++ (rowF 10 ar ++ (rowF 10 (xs.length : Int) ++ (xs.flatMap insBx ++ []))) := by unfold procB; simp [List.append_assoc]
  have p3 : procB nm ar xs = (rowF 10 (strBs nm).length ++ strBs nm ++ rowF 10 ar) ++ (rowF 10 (xs.length : Int) ++ (xs.flatMap insBx ++ [])) := by unfold procB; simp [List.append_assoc]
  have p4 : procB nm ar xs = (rowF 10 (strBs nm).length ++ strBs nm ++ rowF 10 ar ++ rowF 10 (xs.length : Int)) ++ (xs.flatMap insBx ++ []) := by unfold procB; simp [List.append_assoc]
  rw [← p1] at t1
  rw [← p2] at t2
  rw [← p3] at t3
  rw [← p4] at t4
  have q2 : ([] : List Int).length + ((rowF 10 ((strBs nm).length : Int)).length + (strBs nm).length) = (rowF 10 (strBs nm).length ++ strBs nm).length := by simp
  have q3 : (rowF 10 ((strBs nm).length : Int) ++ strBs nm).length + (rowF 10 ar).length = (rowF 10 (strBs nm).length ++ strBs nm ++ rowF 10 ar).length := by simp; omega
  have q4 : (rowF 10 ((strBs nm).length : Int) ++ strBs nm ++ rowF 10 ar).length + (rowF 10 (xs.length : Int)).length = (rowF 10 (strBs nm).length ++ strBs nm ++ rowF 10 ar ++ rowF 10 (xs.length : Int)).length := by simp; omega
  have hT : tkProc (procB nm ar xs) = .ok (strBs nm, ar, xs) := by
    unfold tkProc
    rw [show takeZ 3 32 (procB nm ar xs) 0 0 = _ from t1]
    dsimp only
    rw [q2, t2]
    dsimp only
    rw [q3, t3]
    dsimp only
    rw [if_pos rfl, if_pos (by omega), Int.toNat_natCast, q4, t4]
    unfold tkEnd
    dsimp only
    have hE : endZ (procB nm ar xs).length ((rowF 10 (strBs nm).length ++ strBs nm ++ rowF 10 ar ++ rowF 10 (xs.length : Int)).length + (xs.flatMap insBx).length) 0 = 0 := by
      unfold endZ
      rw [if_pos rfl, if_neg]
      rw [p4]
      simp
      omega
    rw [hE, if_pos rfl]
  unfold decP
  rw [hT]
  dsimp only
  rw [mkStr_strBs, if_pos hg]

end Go.Proofs.Ytljfmbjibjoiiab
