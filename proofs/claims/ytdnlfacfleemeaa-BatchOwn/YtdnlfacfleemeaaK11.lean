import Derived.Test.YtdnlfacfleemeaaK08
import Derived.Test.YtdnlfacfleemeaaK10
namespace Go.Proofs.Ytdnlfacfleemeaa
open Go.RowKit

theorem takeZ_txt_len {bs : List Int} {at' a2 : Nat} {v : Int} {t : List Int} (h : takeZ 3 256 bs at' 0 = ((v, t), a2, 0)) : t.length ≤ 256 := by
  unfold takeZ at h
  rw [if_pos rfl] at h
  split at h
  · rw [if_pos rfl] at h
    split at h
    · injection h with h1 h2; injection h2 with h3 h4; omega
    · rename_i hm
      split at h
      · injection h with h1 h2; injection h2 with h3 h4; omega
      · injection h with h1 h2
        injection h1 with h3 h4
        subst h4
        rw [List.length_take]
        have : (leadZ 3 (bs.drop at') 256).1 ≤ 256 := by
          have e : max (256 : Int) 0 = 256 := by omega
          rw [e] at hm
          omega
        omega
  · rename_i hne
    injection h with h1 h2; injection h2 with h3 h4; exact absurd h4 hne

theorem endZ_zero {len at' : Nat} {e : Int} (h : endZ len at' e = 0) : e = 0 ∧ len ≤ at' := by
  unfold endZ at h
  split at h
  · rename_i he
    split at h
    · omega
    · exact ⟨he, by omega⟩
  · omega

/-- Bytes that are taken are the value's own. -/
theorem enc_dec (bs : List Int) (ho : Oct bs) (k i : Int) (x : List Int) (hd : decZ bs = ((k, i, x), 0)) :
    chk k i (mkStr x) = 0 ∧ encB k i (mkStr x) = bs ∧ (-9223372036854775808 ≤ i ∧ i < 9223372036854775808) ∧ (mkStr x).size ≤ 256 := by
  rcases takeZ_byte bs with ⟨rfl, ht⟩ | ⟨b, r, rfl, ht⟩
  · simp [decZ, ht, endZ] at hd
  · by_cases b0 : b = 0
    · subst b0
      simp [decZ, ht] at hd
      obtain ⟨⟨rfl, rfl, rfl⟩, he⟩ := hd
      have := (endZ_zero he).2
      simp at this
      subst this
      exact ⟨rfl, rfl, by omega, by decide⟩
    · by_cases b1 : b = 1
      · subst b1
        have hb := takeZ_bd 2 0 (1 :: r) 1 0 ho
        obtain ⟨⟨⟨u, t⟩, a2, e2⟩, ht2⟩ : ∃ t, takeZ 2 0 (1 :: r) 1 0 = t := ⟨_, rfl⟩
        rw [ht2] at hb
        simp [decZ, ht, ht2] at hd
        obtain ⟨⟨rfl, rfl, rfl⟩, he⟩ := hd
        obtain ⟨rfl, hlen⟩ := endZ_zero he
        have hr := takeZ_row ho (by omega) (by omega) ht2
        obtain ⟨u0, rfl, _, ha, hrow⟩ := hr
        simp at hlen ha hrow
        have ha2 : a2 - 1 = r.length := by omega
        rw [ha2, List.take_length] at hrow
        have hu := hb.2.1
        have hu : u < 18446744073709551616 := hu
        refine ⟨by rfl, ?_, ?_, by decide⟩
        · simp [encB, fold_unfold u u0, hrow]
        · unfold unfoldZ; split <;> omega
      · by_cases b2 : b = 2
        · subst b2
          obtain ⟨⟨⟨u, t⟩, a2, e2⟩, ht2⟩ : ∃ t, takeZ 3 256 (2 :: r) 1 0 = t := ⟨_, rfl⟩
          simp [decZ, ht, ht2] at hd
          obtain ⟨⟨rfl, rfl, rfl⟩, he⟩ := hd
          obtain ⟨rfl, hlen⟩ := endZ_zero he
          obtain ⟨ot, ha1, ha, hrow⟩ := takeZ_txt ho ht2
          have hl := takeZ_txt_len ht2
          simp at hlen ha hrow
          have ha2 : a2 - 1 = r.length := by omega
          rw [ha2, List.take_length] at hrow
          have hsz := mkStr_size t
          refine ⟨?_, ?_, by omega, by omega⟩
          · have : ¬ 256 < (mkStr t).size := by omega
            simp [chk, this]
          · simp [encB, strBs_mkStr t ot, hrow]
        · simp [decZ, ht, b0, b1, b2] at hd

end Go.Proofs.Ytdnlfacfleemeaa

namespace Go.Proofs.Ytdnlfacfleemeaa
open Go.RowKit

theorem rowGo_more (last : Nat) (top : Int) (m : List Int) : ∀ (d : List Int) (i : Nat) (u : Int), (rowGo last top d i u).2.2 = 0 → rowGo last top (d ++ m) i u = rowGo last top d i u := by
  intro d
  induction d with
  | nil => intro i u h; simp [rowGo] at h
  | cons c d ih =>
    intro i u h
    rw [List.cons_append, rowGo, rowGo]
    rw [rowGo] at h
    by_cases h1 : i + 1 = last ∧ top < c
    · rw [if_pos h1, if_pos h1]
    · rw [if_neg h1] at h ⊢
      rw [if_neg h1]
      by_cases h2 : 128 ≤ c
      · rw [if_pos h2] at h ⊢
        rw [if_pos h2]
        exact ih _ _ h
      · rw [if_neg h2, if_neg h2]

theorem leadZ_more (f n : Int) (d m : List Int) (h : (leadZ f d n).2.2 = 0) : leadZ f (d ++ m) n = leadZ f d n := by
  unfold leadZ at h ⊢
  by_cases h0 : f = 0
  · rw [if_pos h0] at h ⊢
    rw [if_pos h0]
    unfold fixZ at h ⊢
    by_cases h1 : n < 0 ∨ 8 < n
    · rw [if_pos h1] at h; simp at h
    · rw [if_neg h1] at h ⊢
      rw [if_neg h1]
      by_cases h2 : (d.length : Int) < n
      · rw [if_pos h2] at h; simp at h
      · rw [if_neg h2, if_neg (by rw [List.length_append]; omega), List.take_append_of_le_length (by omega)]
  · rw [if_neg h0] at h ⊢
    rw [if_neg h0]
    by_cases h2 : f = 2
    · rw [if_pos h2] at h ⊢
      rw [if_pos h2]
      exact rowGo_more 10 1 m d 0 0 h
    · rw [if_neg h2] at h ⊢
      rw [if_neg h2]
      exact rowGo_more 9 127 m d 0 0 h

theorem leadZ_n (n n' : Int) (d : List Int) : leadZ 3 d n = leadZ 3 d n' := by
  simp [leadZ]

theorem takeZ_more (f n : Int) (bs m : List Int) (a : Nat) (ho : Oct bs) (ha : a ≤ bs.length) (h : (takeZ f n bs a 0).2.2 = 0) : takeZ f n (bs ++ m) a 0 = takeZ f n bs a 0 := by
  unfold takeZ at h ⊢
  rw [List.drop_append_of_le_length ha]
  rw [if_pos rfl] at h ⊢
  rw [if_pos rfl]
  by_cases h0 : (leadZ f (bs.drop a) n).2.2 = 0
  · rw [leadZ_more f n _ m h0]
    rw [if_pos h0] at h ⊢
    rw [if_pos h0]
    by_cases h3 : f = 3
    · rw [if_pos h3] at h ⊢
      rw [if_pos h3]
      by_cases h4 : max n 0 < (leadZ f (bs.drop a) n).1
      · rw [if_pos h4, if_pos h4]
      · rw [if_neg h4] at h ⊢
        rw [if_neg h4]
        by_cases h5 : ((bs.drop a).length : Int) - (leadZ f (bs.drop a) n).2.1 < (leadZ f (bs.drop a) n).1
        · rw [if_pos h5] at h; simp at h
        · have h6 : ¬ (((bs.drop a ++ m).length : Int) - (leadZ f (bs.drop a) n).2.1 < (leadZ f (bs.drop a) n).1) := by rw [List.length_append]; omega
          rw [if_neg h5, if_neg h6]
          obtain ⟨k, hk, k1, k2, hv, -⟩ := row_again f n (bs.drop a) (ho.drop a) (by omega) h0
          rw [hk] at h5 ⊢
          rw [Int.toNat_natCast, List.drop_append_of_le_length k2, List.take_append_of_le_length (by rw [List.length_drop]; omega)]
    · rw [if_neg h3, if_neg h3]
  · rw [if_neg h0] at h
    exact absurd h h0

theorem takeZ_most (n n' : Int) (bs : List Int) (a : Nat) (hn : n ≤ n') (h : (takeZ 3 n bs a 0).2.2 = 0) : takeZ 3 n' bs a 0 = takeZ 3 n bs a 0 := by
  unfold takeZ at h ⊢
  rw [leadZ_n n' n]
  rw [if_pos rfl] at h ⊢
  rw [if_pos rfl]
  by_cases h0 : (leadZ 3 (bs.drop a) n).2.2 = 0
  · rw [if_pos h0, if_pos rfl] at h ⊢
    rw [if_pos h0, if_pos rfl]
    by_cases h4 : max n 0 < (leadZ 3 (bs.drop a) n).1
    · rw [if_pos h4] at h; simp at h
    · rw [if_neg h4, if_neg (by omega)]
  · rw [if_neg h0] at h
    exact absurd h h0

theorem tkf_more (f : Fk) (bs m : List Int) (a : Nat) (ho : Oct bs) (ha : a ≤ bs.length) (h : (tkf f bs a).2.2 = 0) : tkf f (bs ++ m) a = tkf f bs a := by
  cases f <;> exact takeZ_more _ _ bs m a ho ha h

theorem tkf_le (f : Fk) (bs : List Int) (a : Nat) (ho : Oct bs) (ha : a ≤ bs.length) : (tkf f bs a).2.1 ≤ bs.length := by
  cases f <;> exact takeZ_le _ _ bs a 0 ho ha

theorem tkFs_more (bs m : List Int) (ho : Oct bs) : ∀ (fs : List Fk) (x : Ins) (a : Nat) (y : Ins) (a2 : Nat), a ≤ bs.length → tkFs bs fs x a = .ok (y, a2) → tkFs (bs ++ m) fs x a = .ok (y, a2) ∧ a2 ≤ bs.length := by
  intro fs
  induction fs with
  | nil => intro x a y a2 ha h; rw [tkFs] at h ⊢; injection h with h; injection h with h1 h2; subst h1 h2; exact ⟨rfl, ha⟩
  | cons f fs ih =>
    intro x a y a2 ha h
    rw [tkFs] at h ⊢
    by_cases h0 : (tkf f bs a).2.2 = 0
    · rw [if_pos h0] at h
      rw [tkf_more f bs m a ho ha h0, if_pos h0]
      exact ih _ _ _ _ (tkf_le f bs a ho ha) h
    · rw [if_neg h0] at h; cases h

theorem tkVal_more (bs m : List Int) (ho : Oct bs) (most most' : Int) (hm : most ≤ most') (a : Nat) (ha : a ≤ bs.length) (d : Int × Int × List Int) (a2 : Nat) (h : tkVal bs most a = .ok (d, a2)) : tkVal (bs ++ m) most' a = .ok (d, a2) ∧ a2 ≤ bs.length := by
  unfold tkVal at h ⊢
  by_cases h0 : (takeZ 3 most bs a 0).2.2 = 0
  · rw [if_pos h0] at h
    have e : takeZ 3 most' (bs ++ m) a 0 = takeZ 3 most bs a 0 := by
      have e1 := takeZ_most most most' bs a hm h0
      have e2 := takeZ_more 3 most' bs m a ho ha (by rw [e1]; exact h0)
      rw [e2, e1]
    rw [e, if_pos h0]
    by_cases h1 : (decZ (takeZ 3 most bs a 0).1.2).2 = 0
    · rw [if_pos h1] at h ⊢
      refine ⟨h, ?_⟩
      injection h with h
      injection h with _ h
      rw [← h]
      exact takeZ_le 3 most bs a 0 ho ha
    · rw [if_neg h1] at h; cases h
  · rw [if_neg h0] at h; cases h

theorem tkIns_more (bs m : List Int) (ho : Oct bs) (most most' : Int) (hm : most ≤ most') (a : Nat) (ha : a ≤ bs.length) (y : Ins) (a2 : Nat) (h : tkIns bs most a = .ok (y, a2)) : tkIns (bs ++ m) most' a = .ok (y, a2) ∧ a2 ≤ bs.length := by
  unfold tkIns at h ⊢
  by_cases h0 : (takeZ 0 1 bs a 0).2.2 = 0
  · rw [if_pos h0] at h
    rw [takeZ_more 0 1 bs m a ho ha h0, if_pos h0]
    have hle := takeZ_le 0 1 bs a 0 ho ha
    by_cases h1 : 1 ≤ (takeZ 0 1 bs a 0).1.1 ∧ (takeZ 0 1 bs a 0).1.1 ≤ 16
    · rw [if_pos h1] at h ⊢
      cases hT : tkFs bs (opF (opN (takeZ 0 1 bs a 0).1.1)) (zIns (takeZ 0 1 bs a 0).1.1) (takeZ 0 1 bs a 0).2.1 with
      | error E => rw [hT] at h; cases h
      | ok r =>
        obtain ⟨x, a3⟩ := r
        obtain ⟨e1, e2⟩ := tkFs_more bs m ho _ _ _ _ _ hle hT
        rw [hT] at h
        rw [e1]
        unfold tkAfter at h ⊢
        dsimp only at h ⊢
        by_cases hv : (opN (takeZ 0 1 bs a 0).1.1 == 1) = true
        · rw [if_pos hv] at h ⊢
          cases hV : tkVal bs most a3 with
          | error E => rw [hV] at h; cases h
          | ok r =>
            obtain ⟨d, a4⟩ := r
            obtain ⟨f1, f2⟩ := tkVal_more bs m ho most most' hm a3 e2 d a4 hV
            rw [hV] at h
            rw [f1]
            refine ⟨h, ?_⟩
            injection h with h
            injection h with _ h
            rw [← h]; exact f2
        · rw [if_neg hv] at h ⊢
          refine ⟨h, ?_⟩
          injection h with h
          injection h with _ h
          rw [← h]; exact e2
    · rw [if_neg h1] at h; cases h
  · rw [if_neg h0] at h; cases h

theorem tkCode_more (bs m : List Int) (ho : Oct bs) (most most' : Int) (hm : most ≤ most') : ∀ (n a : Nat) (xs : List Ins) (a2 : Nat), a ≤ bs.length → tkCode bs most n a = .ok (xs, a2) → tkCode (bs ++ m) most' n a = .ok (xs, a2) ∧ a2 ≤ bs.length := by
  intro n
  induction n with
  | zero => intro a xs a2 ha h; rw [tkCode] at h ⊢; refine ⟨h, ?_⟩; injection h with h; injection h with _ h; rw [← h]; exact ha
  | succ n ih =>
    intro a xs a2 ha h
    rw [tkCode] at h ⊢
    cases hI : tkIns bs most a with
    | error E => rw [hI] at h; cases h
    | ok r =>
      obtain ⟨x, a3⟩ := r
      obtain ⟨e1, e2⟩ := tkIns_more bs m ho most most' hm a ha x a3 hI
      rw [hI] at h
      rw [e1]
      dsimp only at h ⊢
      cases hC : tkCode bs most n a3 with
      | error E => rw [hC] at h; cases h
      | ok r =>
        obtain ⟨ys, a4⟩ := r
        obtain ⟨f1, f2⟩ := ih a3 ys a4 e2 hC
        rw [hC] at h
        rw [f1]
        refine ⟨h, ?_⟩
        injection h with h
        injection h with _ h
        rw [← h]; exact f2

theorem takeZ_err (f n : Int) (bs : List Int) (a : Nat) (e : Int) (h : (takeZ f n bs a e).2.2 = 0) : e = 0 := by
  unfold takeZ at h
  by_cases he : e = 0
  · exact he
  · rw [if_neg he] at h
    exact absurd h he

/-- A procedure read, in plain words. -/
theorem tkProc_ok (bs : List Int) (nm : List Int) (ar : Int) (xs : List Ins) (h : tkProc bs = .ok (nm, ar, xs)) :
    ∃ u1 a1 t2 a2 n t3 a3 a4, takeZ 3 32 bs 0 0 = ((u1, nm), a1, 0) ∧ takeZ 1 0 bs a1 0 = ((ar, t2), a2, 0) ∧ takeZ 1 0 bs a2 0 = ((n, t3), a3, 0) ∧ n ≤ 64 ∧ tkCode bs bs.length n.toNat a3 = .ok (xs, a4) ∧ endZ bs.length a4 0 = 0 := by
  unfold tkProc at h
  obtain ⟨⟨⟨u1, t1⟩, a1, e1⟩, ht1⟩ : ∃ t, takeZ 3 32 bs 0 0 = t := ⟨_, rfl⟩
  rw [ht1] at h
  dsimp only at h
  obtain ⟨⟨⟨u2, t2⟩, a2, e2⟩, ht2⟩ : ∃ t, takeZ 1 0 bs a1 e1 = t := ⟨_, rfl⟩
  rw [ht2] at h
  dsimp only at h
  obtain ⟨⟨⟨u3, t3⟩, a3, e3⟩, ht3⟩ : ∃ t, takeZ 1 0 bs a2 e2 = t := ⟨_, rfl⟩
  rw [ht3] at h
  dsimp only at h
  by_cases h3 : e3 = 0
  · subst h3
    have z2 : e2 = 0 := takeZ_err 1 0 bs a2 e2 (by rw [ht3])
    subst z2
    have z1 : e1 = 0 := takeZ_err 1 0 bs a1 e1 (by rw [ht2])
    subst z1
    rw [if_pos rfl] at h
    by_cases h64 : u3 ≤ 64
    · rw [if_pos h64] at h
      cases hC : tkCode bs (bs.length : Int) u3.toNat a3 with
      | error E => rw [hC] at h; cases h
      | ok r =>
        obtain ⟨ys, a4⟩ := r
        rw [hC] at h
        unfold tkEnd at h
        dsimp only at h
        by_cases hE : endZ bs.length a4 0 = 0
        · rw [if_pos hE] at h
          injection h with h
          injection h with h1 h
          injection h with h2 h4
          subst h1 h2 h4
          exact ⟨u1, a1, t2, a2, u3, t3, a3, a4, ht1, ht2, ht3, h64, hC, hE⟩
        · rw [if_neg hE] at h; cases h
    · rw [if_neg h64] at h; cases h
  · rw [if_neg h3] at h; cases h

/-- Something behind: ErrForm. -/
theorem tkProc_more (bs m : List Int) (ho : Oct bs) (hm : m ≠ []) (nm : List Int) (ar : Int) (xs : List Ins) (h : tkProc bs = .ok (nm, ar, xs)) : tkProc (bs ++ m) = .error 3 := by
  obtain ⟨u1, a1, t2, a2, n, t3, a3, a4, h1, h2, h3, h64, hC, hE⟩ := tkProc_ok bs nm ar xs h
  have l1 : a1 ≤ bs.length := by have := takeZ_le 3 32 bs 0 0 ho (Nat.zero_le _); rw [h1] at this; exact this
  have l2 : a2 ≤ bs.length := by have := takeZ_le 1 0 bs a1 0 ho l1; rw [h2] at this; exact this
  have l3 : a3 ≤ bs.length := by have := takeZ_le 1 0 bs a2 0 ho l2; rw [h3] at this; exact this
  have g1 := takeZ_more 3 32 bs m 0 ho (Nat.zero_le _) (by rw [h1])
  have g2 := takeZ_more 1 0 bs m a1 ho l1 (by rw [h2])
  have g3 := takeZ_more 1 0 bs m a2 ho l2 (by rw [h3])
  have hml : 0 < m.length := List.length_pos_iff.2 hm
  obtain ⟨g4, l4⟩ := tkCode_more bs m ho (bs.length : Int) ((bs ++ m).length : Int) (by rw [List.length_append]; omega) _ _ _ _ l3 hC
  rw [h1] at g1
  rw [h2] at g2
  rw [h3] at g3
  unfold tkProc
  rw [g1]
  dsimp only
  rw [g2]
  dsimp only
  rw [g3]
  dsimp only
  rw [if_pos rfl, if_pos h64, g4]
  unfold tkEnd
  dsimp only
  have : endZ (bs ++ m).length a4 0 = 3 := by
    unfold endZ
    rw [if_pos rfl, if_pos (by rw [List.length_append]; omega)]
  rw [this, if_neg (by decide)]

end Go.Proofs.Ytdnlfacfleemeaa

namespace Go.Proofs.Ytdnlfacfleemeaa
open Go.RowKit

/-- A part of a list. -/
def part (bs : List Int) (a b : Nat) : List Int := (bs.drop a).take (b - a)

theorem part_add (bs : List Int) (a b c : Nat) (h1 : a ≤ b) (h2 : b ≤ c) : part bs a b ++ part bs b c = part bs a c := by
  unfold part
  rw [show c - a = (b - a) + (c - b) by omega, List.take_add, List.drop_drop, show a + (b - a) = b by omega]

theorem part_nil (bs : List Int) (a : Nat) : part bs a a = [] := by simp [part]

theorem takeZ_byte_part (bs : List Int) (a : Nat) (_ho : Oct bs) (v : Int) (t : List Int) (a2 : Nat) (h : takeZ 0 1 bs a 0 = ((v, t), a2, 0)) : part bs a a2 = [v] ∧ a ≤ a2 := by
  unfold takeZ leadZ fixZ at h
  simp only [if_true, show ¬ ((1 : Int) < 0 ∨ (8 : Int) < 1) by omega, if_false, show ¬ ((0 : Int) = 3) by omega] at h
  by_cases h2 : ((bs.drop a).length : Int) < 1
  · rw [if_pos h2] at h; simp at h
  · rw [if_neg h2] at h
    simp at h
    obtain ⟨⟨h3, _⟩, h4⟩ := h
    subst h4
    cases hd : bs.drop a with
    | nil => rw [hd] at h2; simp at h2
    | cons c cs =>
      rw [hd] at h3
      simp [leZ] at h3
      subst h3
      refine ⟨?_, by omega⟩
      unfold part
      rw [hd, show a + 1 - a = 1 by omega]
      rfl

theorem tkf_part (f : Fk) (bs : List Int) (a : Nat) (ho : Oct bs) (v : Int) (t : List Int) (a2 : Nat) (h : tkf f bs a = ((v, t), a2, 0)) : fldV f v = part bs a a2 ∧ a ≤ a2 := by
  have hb : takeZ 0 1 bs a 0 = ((v, t), a2, 0) → [v] = part bs a a2 ∧ a ≤ a2 := fun h => ⟨(takeZ_byte_part bs a ho v t a2 h).1.symm, (takeZ_byte_part bs a ho v t a2 h).2⟩
  have hn : takeZ 1 0 bs a 0 = ((v, t), a2, 0) → rowF 10 v = part bs a a2 ∧ a ≤ a2 := fun h => ⟨(takeZ_row ho (by decide) (by decide) h).2.2.2.2, (takeZ_row ho (by decide) (by decide) h).2.2.1⟩
  cases f
  · exact hb h
  · exact hb h
  · exact hb h
  · exact hn h
  · exact hn h
  · exact hn h
  · exact hn h

theorem fk_same (f : Fk) (v : Int) (x : Ins) : f.get (f.set v x) = v := by cases f <;> rfl

theorem fk_rest (f : Fk) (v : Int) (x : Ins) : (f.set v x).op = x.op ∧ (f.set v x).k = x.k ∧ (f.set v x).i = x.i ∧ (f.set v x).t = x.t := by cases f <;> exact ⟨rfl, rfl, rfl, rfl⟩

theorem tkFs_part (bs : List Int) (ho : Oct bs) : ∀ (fs : List Fk) (x : Ins) (a : Nat) (y : Ins) (a2 : Nat), (fs.map Fk.pos).Nodup → tkFs bs fs x a = .ok (y, a2) →
    fs.flatMap (fun f => fldV f (f.get y)) = part bs a a2 ∧ a ≤ a2 ∧ (∀ g : Fk, g.pos ∉ fs.map Fk.pos → g.get y = g.get x) ∧ y.op = x.op ∧ y.k = x.k ∧ y.i = x.i ∧ y.t = x.t := by
  intro fs
  induction fs with
  | nil =>
    intro x a y a2 _ h
    rw [tkFs] at h
    injection h with h
    injection h with h1 h2
    subst h1 h2
    exact ⟨by simp [part_nil], Nat.le_refl _, fun _ _ => rfl, rfl, rfl, rfl, rfl⟩
  | cons f fs ih =>
    intro x a y a2 hn h
    rw [List.map_cons, List.nodup_cons] at hn
    rw [tkFs] at h
    obtain ⟨⟨⟨v, t⟩, a3, e3⟩, htk⟩ : ∃ t, tkf f bs a = t := ⟨_, rfl⟩
    rw [htk] at h
    dsimp only at h
    by_cases h0 : e3 = 0
    · subst h0
      rw [if_pos rfl] at h
      obtain ⟨p1, p2⟩ := tkf_part f bs a ho v t a3 htk
      obtain ⟨q1, q2, q3, q4, q5, q6, q7⟩ := ih _ _ _ _ hn.2 h
      have hf : f.get y = v := by rw [q3 f hn.1]; exact fk_same f v x
      obtain ⟨r1, r2, r3, r4⟩ := fk_rest f v x
      refine ⟨?_, by omega, ?_, q4.trans r1, q5.trans r2, q6.trans r3, q7.trans r4⟩
      · rw [List.flatMap_cons, hf, p1, q1, part_add bs a a3 a2 p2 q2]
      · intro g hg
        rw [List.map_cons, List.mem_cons, not_or] at hg
        rw [q3 g hg.2]
        exact fk_other f g v x hg.1
    · rw [if_neg h0] at h; cases h

theorem decZ_part (t : List Int) (ho : Oct t) (h : (decZ t).2 = 0) : encB (decZ t).1.1 (decZ t).1.2.1 (mkStr (decZ t).1.2.2) = t ∧ (-9223372036854775808 ≤ (decZ t).1.2.1 ∧ (decZ t).1.2.1 < 9223372036854775808) := by
  have h1 : decZ t = (((decZ t).1.1, (decZ t).1.2.1, (decZ t).1.2.2), 0) := by
    generalize decZ t = d at h
    obtain ⟨⟨k, i, x⟩, e⟩ := d
    dsimp only at h ⊢
    rw [h]
  obtain ⟨_, e2, e3, _⟩ := enc_dec t ho _ _ _ h1
  exact ⟨e2, e3⟩

theorem tkVal_part (bs : List Int) (ho : Oct bs) (most : Int) (a : Nat) (d : Int × Int × List Int) (a2 : Nat) (h : tkVal bs most a = .ok (d, a2)) :
    rowF 10 ((encB d.1 d.2.1 (mkStr d.2.2)).length : Nat) ++ encB d.1 d.2.1 (mkStr d.2.2) = part bs a a2 ∧ a ≤ a2 ∧ (-9223372036854775808 ≤ d.2.1 ∧ d.2.1 < 9223372036854775808) := by
  unfold tkVal at h
  obtain ⟨⟨⟨v, t⟩, a3, e3⟩, htk⟩ : ∃ t, takeZ 3 most bs a 0 = t := ⟨_, rfl⟩
  rw [htk] at h
  dsimp only at h
  by_cases h0 : e3 = 0
  · subst h0
    rw [if_pos rfl] at h
    obtain ⟨ot, q1, _, q2⟩ := takeZ_txt ho htk
    by_cases h1 : (decZ t).2 = 0
    · rw [if_pos h1] at h
      injection h with h
      injection h with h2 h3
      subst h2 h3
      obtain ⟨e1, e2⟩ := decZ_part t ot h1
      rw [e1]
      exact ⟨q2, q1, e2⟩
    · rw [if_neg h1] at h; cases h
  · rw [if_neg h0] at h; cases h

theorem insBx_of (op : Int) (x : Ins) (h : x.op = op) : insBx x = [op] ++ (opF (opN op)).flatMap (fun f => fldV f (f.get x)) ++ (if (opN op == 1) = true then valB x else []) := by
  unfold insBx insB
  rw [h]

theorem tkIns_part (bs : List Int) (ho : Oct bs) (most : Int) (a : Nat) (y : Ins) (a2 : Nat) (h : tkIns bs most a = .ok (y, a2)) : insBx y = part bs a a2 ∧ a ≤ a2 ∧ InsOk y := by
  unfold tkIns at h
  obtain ⟨⟨⟨op, u⟩, a1, e1⟩, htk⟩ : ∃ t, takeZ 0 1 bs a 0 = t := ⟨_, rfl⟩
  rw [htk] at h
  dsimp only at h
  by_cases h0 : e1 = 0
  · subst h0
    rw [if_pos rfl] at h
    obtain ⟨p1, p2⟩ := takeZ_byte_part bs a ho op u a1 htk
    by_cases h1 : 1 ≤ op ∧ op ≤ 16
    · rw [if_pos h1] at h
      cases hT : tkFs bs (opF (opN op)) (zIns op) a1 with
      | error E => rw [hT] at h; cases h
      | ok r =>
        obtain ⟨x, a3⟩ := r
        obtain ⟨q1, q2, _, q4, q5, q6, q7⟩ := tkFs_part bs ho _ _ _ _ _ (opF_nodup _) hT
        rw [hT] at h
        unfold tkAfter at h
        dsimp only at h
        by_cases hv : (opN op == 1) = true
        · rw [if_pos hv] at h
          cases hV : tkVal bs most a3 with
          | error E => rw [hV] at h; cases h
          | ok r =>
            obtain ⟨d, a4⟩ := r
            obtain ⟨s1, s2, s3⟩ := tkVal_part bs ho most a3 d a4 hV
            rw [hV] at h
            injection h with h
            injection h with h2 h3
            subst h3
            have hop : y.op = op := by rw [← h2]; exact q4
            have hg : ∀ f : Fk, f.get y = f.get x := by intro f; rw [← h2]; cases f <;> rfl
            refine ⟨?_, by omega, by rw [← h2]; exact s3⟩
            rw [insBx_of op y hop, if_pos hv]
            have e1 : (opF (opN op)).flatMap (fun f => fldV f (f.get y)) = part bs a1 a3 := by
              rw [← q1]
              congr 1
              funext f
              rw [hg f]
            have e2 : valB y = part bs a3 a4 := by rw [← h2]; exact s1
            rw [e1, e2, ← p1, part_add bs a a1 a3 p2 q2, part_add bs a a3 a4 (by omega) s2]
        · rw [if_neg hv] at h
          injection h with h
          injection h with h2 h3
          subst h2 h3
          refine ⟨?_, by omega, by rw [InsOk, q6]; show -9223372036854775808 ≤ (0 : Int) ∧ (0 : Int) < 9223372036854775808; omega⟩
          rw [insBx_of op x q4, if_neg hv, q1, ← p1, part_add bs a a1 a3 p2 q2, List.append_nil]
    · rw [if_neg h1] at h; cases h
  · rw [if_neg h0] at h; cases h

theorem tkCode_part (bs : List Int) (ho : Oct bs) (most : Int) : ∀ (n a : Nat) (xs : List Ins) (a2 : Nat), tkCode bs most n a = .ok (xs, a2) → xs.flatMap insBx = part bs a a2 ∧ a ≤ a2 ∧ (∀ x ∈ xs, InsOk x) ∧ xs.length = n := by
  intro n
  induction n with
  | zero => intro a xs a2 h; rw [tkCode] at h; injection h with h; injection h with h1 h2; subst h1 h2; exact ⟨by simp [part_nil], Nat.le_refl _, fun x hx => by simp at hx, rfl⟩
  | succ n ih =>
    intro a xs a2 h
    rw [tkCode] at h
    cases hI : tkIns bs most a with
    | error E => rw [hI] at h; cases h
    | ok r =>
      obtain ⟨x, a3⟩ := r
      obtain ⟨p1, p2, p3⟩ := tkIns_part bs ho most a x a3 hI
      rw [hI] at h
      dsimp only at h
      cases hC : tkCode bs most n a3 with
      | error E => rw [hC] at h; cases h
      | ok r =>
        obtain ⟨ys, a4⟩ := r
        obtain ⟨q1, q2, q3, q4⟩ := ih a3 ys a4 hC
        rw [hC] at h
        injection h with h
        injection h with h1 h2
        subst h1 h2
        refine ⟨?_, by omega, ?_, by rw [List.length_cons, q4]⟩
        · rw [List.flatMap_cons, p1, q1, part_add bs a a3 a4 p2 q2]
        · intro y hy
          rcases List.mem_cons.1 hy with rfl | hy
          · exact p3
          · exact q3 y hy

/-- What is decoded is encoded to the same bytes. -/
theorem tkProc_bytes (bs : List Int) (ho : Oct bs) (nm : List Int) (ar : Int) (xs : List Ins) (h : tkProc bs = .ok (nm, ar, xs)) : procB (mkStr nm) ar xs = bs ∧ (∀ x ∈ xs, InsOk x) := by
  obtain ⟨u1, a1, t2, a2, n, t3, a3, a4, h1, h2, h3, h64, hC, hE⟩ := tkProc_ok bs nm ar xs h
  obtain ⟨o1, s1, s2, s3⟩ := takeZ_txt ho h1
  obtain ⟨r1, _, r2, _, r3⟩ := takeZ_row ho (by decide) (by decide) h2
  obtain ⟨v1, _, v2, _, v3⟩ := takeZ_row ho (by decide) (by decide) h3
  obtain ⟨c1, c2, c3, c4⟩ := tkCode_part bs ho _ _ _ _ _ hC
  have hend := (endZ_zero hE).2
  refine ⟨?_, c3⟩
  unfold procB
  rw [strBs_mkStr nm o1, c1, s3, r3, c4]
  have : ((n.toNat : Nat) : Int) = n := by omega
  rw [this, v3]
  show part bs 0 a1 ++ part bs a1 a2 ++ part bs a2 a3 ++ part bs a3 a4 = bs
  rw [part_add bs 0 a1 a2 s1 r2, part_add bs 0 a2 a3 (by omega) v2, part_add bs 0 a3 a4 (by omega) c2]
  unfold part
  rw [List.drop_zero, List.take_of_length_le (by omega)]

end Go.Proofs.Ytdnlfacfleemeaa
