import Derived.Test.YtdnlfacfleemeaaK13
import Derived.Test.YtdnlfacfleemeaaK14
namespace Go.Proofs.Ytdnlfacfleemeaa
open Go.RowKit Go.Lib

/-- A value, a transaction, as plain data. -/
structure Vd where
  k : Int
  i : Int
  t : ByteArray

structure Txd where
  k : Int
  pn : ByteArray
  pa : Int
  xs : List Ins
  nm : ByteArray
  vs : List Vd

/-- The first value that is none. -/
def vsChk : List Vd → Int
  | [] => 0
  | v :: vs => if chk v.k v.i v.t = 0 then vsChk vs else chk v.k v.i v.t

/-- A transaction, its values left aside. -/
def txHead (t : Txd) : Int :=
  if t.k = 1 then (if t.nm = emp ∧ t.vs = [] then (procChk t.pn t.pa t.xs).2 else 3)
  else if t.k = 2 then (if t.pn = emp ∧ t.pa = 0 ∧ t.xs = [] then (if nameB t.nm = true then (if t.vs.length ≤ 16 then 0 else 4) else 5) else 3)
  else 1

def txChk (t : Txd) : Int := if txHead t = 0 then vsChk t.vs else txHead t

def tsChk : List Txd → Int
  | [] => 0
  | t :: ts => if txChk t = 0 then tsChk ts else txChk t

/-- What Check answers. -/
def batChk (f : Int) (ts : List Txd) : Int :=
  if 1 ≤ f ∧ f ≤ 281474976710655 ∧ 1 ≤ ts.length ∧ ts.length ≤ 64 then (if f + ts.length - 1 ≤ 281474976710655 then tsChk ts else 23) else 1

/-- A value, a transaction, a batch as bytes. -/
def vB (v : Vd) : List Int := rowF 10 ((encB v.k v.i v.t).length : Nat) ++ encB v.k v.i v.t
def txB (t : Txd) : List Int :=
  if t.k = 1 then [1] ++ rowF 10 ((procB t.pn t.pa t.xs).length : Nat) ++ procB t.pn t.pa t.xs
  else [2] ++ rowF 10 ((strBs t.nm).length : Nat) ++ strBs t.nm ++ rowF 10 (t.vs.length : Int) ++ t.vs.flatMap vB
def batB (f : Int) (ts : List Txd) : List Int := rowF 10 f ++ rowF 10 (ts.length : Int) ++ ts.flatMap txB

/-- What Encode answers. -/
def batE (f : Int) (ts : List Txd) : Except Int (List Int) :=
  if batChk f ts = 0 then (if (batB f ts).length ≤ 65536 then .ok (batB f ts) else .error 4) else .error (batChk f ts)

/-- Readings. -/
def tkVs (bs : List Int) (most : Int) : Nat → Nat → Except Int (List Vd × Nat)
  | 0, a => .ok ([], a)
  | n + 1, a =>
    match tkVal bs most a with
    | .error E => .error E
    | .ok (d, a2) =>
      match tkVs bs most n a2 with
      | .error E => .error E
      | .ok (vs, a3) => .ok (⟨d.1, d.2.1, mkStr d.2.2⟩ :: vs, a3)

def tkDef (bs : List Int) (a : Nat) : Except Int (Txd × Nat) :=
  if (takeZ 3 bs.length bs a 0).2.2 = 0 then
    match decP (takeZ 3 bs.length bs a 0).1.2 with
    | .error E => .error E
    | .ok (nm, ar, xs) => .ok (⟨1, mkStr nm, ar, xs, emp, []⟩, (takeZ 3 bs.length bs a 0).2.1)
  else .error (takeZ 3 bs.length bs a 0).2.2

def tkCalN (bs : List Int) (nm : List Int) (a : Nat) : Except Int (Txd × Nat) :=
  if (takeZ 1 0 bs a 0).2.2 = 0 then
    if (takeZ 1 0 bs a 0).1.1 ≤ 16 then
      match tkVs bs bs.length (takeZ 1 0 bs a 0).1.1.toNat (takeZ 1 0 bs a 0).2.1 with
      | .error E => .error E
      | .ok (vs, a3) => .ok (⟨2, emp, 0, [], mkStr nm, vs⟩, a3)
    else .error 4
  else .error (takeZ 1 0 bs a 0).2.2

def tkCal (bs : List Int) (a : Nat) : Except Int (Txd × Nat) :=
  if (takeZ 3 32 bs a 0).2.2 = 0 then tkCalN bs (takeZ 3 32 bs a 0).1.2 (takeZ 3 32 bs a 0).2.1 else .error (takeZ 3 32 bs a 0).2.2

def tkTx (bs : List Int) (a : Nat) : Except Int (Txd × Nat) :=
  if (takeZ 0 1 bs a 0).2.2 = 0 then
    if (takeZ 0 1 bs a 0).1.1 = 1 then tkDef bs (takeZ 0 1 bs a 0).2.1
    else if (takeZ 0 1 bs a 0).1.1 = 2 then tkCal bs (takeZ 0 1 bs a 0).2.1
    else .error 1
  else .error (takeZ 0 1 bs a 0).2.2

def tkTs (bs : List Int) : Nat → Nat → Except Int (List Txd × Nat)
  | 0, a => .ok ([], a)
  | n + 1, a =>
    match tkTx bs a with
    | .error E => .error E
    | .ok (t, a2) =>
      match tkTs bs n a2 with
      | .error E => .error E
      | .ok (ts, a3) => .ok (t :: ts, a3)

def tkBEnd (bs : List Int) (f : Int) : Except Int (List Txd × Nat) → Except Int (Int × List Txd)
  | .error E => .error E
  | .ok (ts, a) => if endZ bs.length a 0 = 0 then .ok (f, ts) else .error (endZ bs.length a 0)

def tkBatN (bs : List Int) (f : Int) (a : Nat) : Except Int (Int × List Txd) :=
  if (takeZ 1 0 bs a 0).2.2 = 0 then
    if (takeZ 1 0 bs a 0).1.1 ≤ 64 then tkBEnd bs f (tkTs bs (takeZ 1 0 bs a 0).1.1.toNat (takeZ 1 0 bs a 0).2.1) else .error 1
  else .error (takeZ 1 0 bs a 0).2.2

def tkBat (bs : List Int) : Except Int (Int × List Txd) :=
  if (takeZ 1 0 bs 0 0).2.2 = 0 then tkBatN bs (takeZ 1 0 bs 0 0).1.1 (takeZ 1 0 bs 0 0).2.1 else .error (takeZ 1 0 bs 0 0).2.2

/-- What Decode answers. -/
def decBat (bs : List Int) : Except Int (Int × List Txd) :=
  if bs.length ≤ 65536 then
    match tkBat bs with
    | .error E => .error E
    | .ok (f, ts) => if batChk f ts = 0 then .ok (f, ts) else .error (batChk f ts)
  else .error 4

/-- Integers within 64 binary digits. -/
def VdOk (v : Vd) : Prop := -9223372036854775808 ≤ v.i ∧ v.i < 9223372036854775808
def TxOk (t : Txd) : Prop := (∀ x ∈ t.xs, InsOk x) ∧ ∀ v ∈ t.vs, VdOk v

/-! Errors are no 0. -/
theorem tkVs_err (bs : List Int) (most : Int) : ∀ (n a : Nat) (E : Int), tkVs bs most n a = .error E → E ≠ 0 := by
  intro n
  induction n with
  | zero => intro a E h; rw [tkVs] at h; cases h
  | succ n ih =>
    intro a E h
    rw [tkVs] at h
    cases hV : tkVal bs most a with
    | error E2 => rw [hV] at h; have h : E2 = E := by simpa using h
                  rw [← h]; exact tkVal_err bs most a E2 hV
    | ok r =>
      obtain ⟨d, a2⟩ := r
      rw [hV] at h
      dsimp only at h
      cases hC : tkVs bs most n a2 with
      | error E2 => rw [hC] at h; have h : E2 = E := by simpa using h
                    rw [← h]; exact ih a2 E2 hC
      | ok r => rw [hC] at h; cases h

theorem tkTx_err (bs : List Int) (a : Nat) (E : Int) (h : tkTx bs a = .error E) : E ≠ 0 := by
  unfold tkTx at h
  split at h
  · split at h
    · unfold tkDef at h
      split at h
      · split at h
        · rename_i E2 hd; injection h with h; rw [← h]; exact decP_err _ _ hd
        · cases h
      · rename_i h0; injection h with h; rw [← h]; exact h0
    · split at h
      · unfold tkCal at h
        split at h
        · unfold tkCalN at h
          split at h
          · split at h
            · split at h
              · rename_i E2 hd; injection h with h; rw [← h]; exact tkVs_err _ _ _ _ _ hd
              · cases h
            · injection h with h; rw [← h]; decide
          · rename_i h0; injection h with h; rw [← h]; exact h0
        · rename_i h0; injection h with h; rw [← h]; exact h0
      · injection h with h; rw [← h]; decide
  · rename_i h0; injection h with h; rw [← h]; exact h0

theorem tkTs_err (bs : List Int) : ∀ (n a : Nat) (E : Int), tkTs bs n a = .error E → E ≠ 0 := by
  intro n
  induction n with
  | zero => intro a E h; rw [tkTs] at h; cases h
  | succ n ih =>
    intro a E h
    rw [tkTs] at h
    cases hV : tkTx bs a with
    | error E2 => rw [hV] at h; have h : E2 = E := by simpa using h
                  rw [← h]; exact tkTx_err bs a E2 hV
    | ok r =>
      obtain ⟨d, a2⟩ := r
      rw [hV] at h
      dsimp only at h
      cases hC : tkTs bs n a2 with
      | error E2 => rw [hC] at h; have h : E2 = E := by simpa using h
                    rw [← h]; exact ih a2 E2 hC
      | ok r => rw [hC] at h; cases h

theorem tkBat_err (bs : List Int) (E : Int) (h : tkBat bs = .error E) : E ≠ 0 := by
  unfold tkBat at h
  split at h
  · unfold tkBatN at h
    split at h
    · split at h
      · unfold tkBEnd at h
        split at h
        · rename_i E2 hC; injection h with h; rw [← h]; exact tkTs_err _ _ _ _ hC
        · split at h
          · cases h
          · rename_i h0; injection h with h; rw [← h]; exact h0
      · injection h with h; rw [← h]; decide
    · rename_i h0; injection h with h; rw [← h]; exact h0
  · rename_i h0; injection h with h; rw [← h]; exact h0

theorem decBat_err (bs : List Int) (E : Int) (h : decBat bs = .error E) : E ≠ 0 := by
  unfold decBat at h
  split at h
  · split at h
    · rename_i E2 hT; injection h with h; rw [← h]; exact tkBat_err bs E2 hT
    · split at h
      · cases h
      · rename_i h0; injection h with h; rw [← h]; exact h0
  · injection h with h; rw [← h]; decide

theorem decBat_ok (bs : List Int) (f : Int) (ts : List Txd) (h : decBat bs = .ok (f, ts)) : bs.length ≤ 65536 ∧ tkBat bs = .ok (f, ts) ∧ batChk f ts = 0 := by
  unfold decBat at h
  split at h
  · rename_i hl
    split at h
    · cases h
    · rename_i f' ts' hT
      split at h
      · rename_i h0
        injection h with h
        injection h with h1 h2
        subst h1 h2
        exact ⟨hl, hT, h0⟩
      · cases h
  · cases h

/-! More bytes behind. -/
theorem tkVs_more (bs m : List Int) (ho : Oct bs) (most most' : Int) (hm : most ≤ most') : ∀ (n a : Nat) (vs : List Vd) (a2 : Nat), a ≤ bs.length → tkVs bs most n a = .ok (vs, a2) → tkVs (bs ++ m) most' n a = .ok (vs, a2) ∧ a2 ≤ bs.length := by
  intro n
  induction n with
  | zero => intro a vs a2 ha h; rw [tkVs] at h ⊢; refine ⟨h, ?_⟩; injection h with h; injection h with _ h; rw [← h]; exact ha
  | succ n ih =>
    intro a vs a2 ha h
    rw [tkVs] at h ⊢
    cases hI : tkVal bs most a with
    | error E => rw [hI] at h; cases h
    | ok r =>
      obtain ⟨d, a3⟩ := r
      obtain ⟨e1, e2⟩ := tkVal_more bs m ho most most' hm a ha d a3 hI
      rw [hI] at h
      rw [e1]
      dsimp only at h ⊢
      cases hC : tkVs bs most n a3 with
      | error E => rw [hC] at h; cases h
      | ok r =>
        obtain ⟨ys, a4⟩ := r
        obtain ⟨f1, f2⟩ := ih a3 ys a4 e2 hC
        rw [hC] at h
        rw [f1]
        refine ⟨h, ?_⟩
        injection h with h
        injection h with _ h
        rw [← h]; exact f2

theorem text_more (bs m : List Int) (ho : Oct bs) (a : Nat) (ha : a ≤ bs.length) (h : (takeZ 3 bs.length bs a 0).2.2 = 0) : takeZ 3 (bs ++ m).length (bs ++ m) a 0 = takeZ 3 bs.length bs a 0 := by
  have e1 := takeZ_most bs.length (bs ++ m).length bs a (by rw [List.length_append]; omega) h
  have e2 := takeZ_more 3 (bs ++ m).length bs m a ho ha (by rw [e1]; exact h)
  rw [e2, e1]

theorem tkTx_more (bs m : List Int) (ho : Oct bs) (a : Nat) (ha : a ≤ bs.length) (t : Txd) (a2 : Nat) (h : tkTx bs a = .ok (t, a2)) : tkTx (bs ++ m) a = .ok (t, a2) ∧ a2 ≤ bs.length := by
  unfold tkTx at h ⊢
  by_cases h0 : (takeZ 0 1 bs a 0).2.2 = 0
  · rw [if_pos h0] at h
    rw [takeZ_more 0 1 bs m a ho ha h0, if_pos h0]
    have hle := takeZ_le 0 1 bs a 0 ho ha
    generalize (takeZ 0 1 bs a 0).2.1 = b at h hle ⊢
    by_cases h1 : (takeZ 0 1 bs a 0).1.1 = 1
    · rw [if_pos h1] at h ⊢
      unfold tkDef at h ⊢
      by_cases h2 : (takeZ 3 bs.length bs b 0).2.2 = 0
      · rw [if_pos h2] at h
        rw [text_more bs m ho b hle h2, if_pos h2]
        refine ⟨h, ?_⟩
        have hl2 := takeZ_le 3 bs.length bs b 0 ho hle
        split at h
        · cases h
        · injection h with h; injection h with _ h; rw [← h]; exact hl2
      · rw [if_neg h2] at h; cases h
    · rw [if_neg h1] at h ⊢
      by_cases h2 : (takeZ 0 1 bs a 0).1.1 = 2
      · rw [if_pos h2] at h ⊢
        unfold tkCal at h ⊢
        by_cases h3 : (takeZ 3 32 bs b 0).2.2 = 0
        · rw [if_pos h3] at h
          rw [takeZ_more 3 32 bs m b ho hle h3, if_pos h3]
          have hl2 := takeZ_le 3 32 bs b 0 ho hle
          generalize (takeZ 3 32 bs b 0).2.1 = c at h hl2 ⊢
          unfold tkCalN at h ⊢
          by_cases h4 : (takeZ 1 0 bs c 0).2.2 = 0
          · rw [if_pos h4] at h
            rw [takeZ_more 1 0 bs m c ho hl2 h4, if_pos h4]
            have hl3 := takeZ_le 1 0 bs c 0 ho hl2
            by_cases h5 : (takeZ 1 0 bs c 0).1.1 ≤ 16
            · rw [if_pos h5] at h ⊢
              cases hC : tkVs bs bs.length (takeZ 1 0 bs c 0).1.1.toNat (takeZ 1 0 bs c 0).2.1 with
              | error E => rw [hC] at h; cases h
              | ok r =>
                obtain ⟨vs, a4⟩ := r
                obtain ⟨f1, f2⟩ := tkVs_more bs m ho bs.length (bs ++ m).length (by rw [List.length_append]; omega) _ _ _ _ hl3 hC
                rw [hC] at h
                rw [f1]
                refine ⟨h, ?_⟩
                injection h with h
                injection h with _ h
                rw [← h]; exact f2
            · rw [if_neg h5] at h; cases h
          · rw [if_neg h4] at h; cases h
        · rw [if_neg h3] at h; cases h
      · rw [if_neg h2] at h; cases h
  · rw [if_neg h0] at h; cases h

theorem tkTs_more (bs m : List Int) (ho : Oct bs) : ∀ (n a : Nat) (ts : List Txd) (a2 : Nat), a ≤ bs.length → tkTs bs n a = .ok (ts, a2) → tkTs (bs ++ m) n a = .ok (ts, a2) ∧ a2 ≤ bs.length := by
  intro n
  induction n with
  | zero => intro a vs a2 ha h; rw [tkTs] at h ⊢; refine ⟨h, ?_⟩; injection h with h; injection h with _ h; rw [← h]; exact ha
  | succ n ih =>
    intro a vs a2 ha h
    rw [tkTs] at h ⊢
    cases hI : tkTx bs a with
    | error E => rw [hI] at h; cases h
    | ok r =>
      obtain ⟨d, a3⟩ := r
      obtain ⟨e1, e2⟩ := tkTx_more bs m ho a ha d a3 hI
      rw [hI] at h
      rw [e1]
      dsimp only at h ⊢
      cases hC : tkTs bs n a3 with
      | error E => rw [hC] at h; cases h
      | ok r =>
        obtain ⟨ys, a4⟩ := r
        obtain ⟨f1, f2⟩ := ih a3 ys a4 e2 hC
        rw [hC] at h
        rw [f1]
        refine ⟨h, ?_⟩
        injection h with h
        injection h with _ h
        rw [← h]; exact f2

/-- A batch read, in plain words. -/
theorem tkBat_ok (bs : List Int) (f : Int) (ts : List Txd) (h : tkBat bs = .ok (f, ts)) :
    ∃ t1 a1 n t2 a2 a3, takeZ 1 0 bs 0 0 = ((f, t1), a1, 0) ∧ takeZ 1 0 bs a1 0 = ((n, t2), a2, 0) ∧ n ≤ 64 ∧ tkTs bs n.toNat a2 = .ok (ts, a3) ∧ endZ bs.length a3 0 = 0 := by
  unfold tkBat at h
  obtain ⟨⟨⟨u1, t1⟩, a1, e1⟩, ht1⟩ : ∃ t, takeZ 1 0 bs 0 0 = t := ⟨_, rfl⟩
  rw [ht1] at h
  dsimp only at h
  by_cases h1 : e1 = 0
  · subst h1
    rw [if_pos rfl] at h
    unfold tkBatN at h
    obtain ⟨⟨⟨u2, t2⟩, a2, e2⟩, ht2⟩ : ∃ t, takeZ 1 0 bs a1 0 = t := ⟨_, rfl⟩
    rw [ht2] at h
    dsimp only at h
    by_cases h2 : e2 = 0
    · subst h2
      rw [if_pos rfl] at h
      by_cases h3 : u2 ≤ 64
      · rw [if_pos h3] at h
        cases hC : tkTs bs u2.toNat a2 with
        | error E => rw [hC] at h; cases h
        | ok r =>
          obtain ⟨ys, a3⟩ := r
          rw [hC] at h
          unfold tkBEnd at h
          dsimp only at h
          by_cases hE : endZ bs.length a3 0 = 0
          · rw [if_pos hE] at h
            injection h with h
            injection h with h4 h5
            subst h4 h5
            exact ⟨t1, a1, u2, t2, a2, a3, ht1, ht2, h3, hC, hE⟩
          · rw [if_neg hE] at h; cases h
      · rw [if_neg h3] at h; cases h
    · rw [if_neg h2] at h; cases h
  · rw [if_neg h1] at h; cases h

theorem tkBat_more (bs m : List Int) (ho : Oct bs) (hm : m ≠ []) (f : Int) (ts : List Txd) (h : tkBat bs = .ok (f, ts)) : tkBat (bs ++ m) = .error 3 := by
  obtain ⟨t1, a1, n, t2, a2, a3, h1, h2, h64, hC, hE⟩ := tkBat_ok bs f ts h
  have l1 : a1 ≤ bs.length := by have := takeZ_le 1 0 bs 0 0 ho (Nat.zero_le _); rw [h1] at this; exact this
  have l2 : a2 ≤ bs.length := by have := takeZ_le 1 0 bs a1 0 ho l1; rw [h2] at this; exact this
  have g1 := takeZ_more 1 0 bs m 0 ho (Nat.zero_le _) (by rw [h1])
  have g2 := takeZ_more 1 0 bs m a1 ho l1 (by rw [h2])
  have hml : 0 < m.length := List.length_pos_iff.2 hm
  obtain ⟨g4, l4⟩ := tkTs_more bs m ho _ _ _ _ l2 hC
  rw [h1] at g1
  rw [h2] at g2
  unfold tkBat
  rw [g1]
  dsimp only
  rw [if_pos rfl]
  unfold tkBatN
  rw [g2]
  dsimp only
  rw [if_pos rfl, if_pos h64, g4]
  unfold tkBEnd
  dsimp only
  have : endZ (bs ++ m).length a3 0 = 3 := by
    unfold endZ
    rw [if_pos rfl, if_pos (by rw [List.length_append]; omega)]
  rw [this, if_neg (by decide)]

/-- Another batch's beginning is none. -/
theorem decBat_cut (bs : List Int) (ho : Oct bs) (f : Int) (ts : List Txd) (h : decBat bs = .ok (f, ts)) (c : Nat) (hc : c < bs.length) : ∃ E, decBat (bs.take c) = .error E ∧ E ≠ 0 := by
  cases hD : decBat (bs.take c) with
  | error E => exact ⟨E, rfl, decBat_err _ _ hD⟩
  | ok r =>
    obtain ⟨f', ts'⟩ := r
    exfalso
    have h1 := (decBat_ok _ _ _ hD).2.1
    have h2 := tkBat_more (bs.take c) (bs.drop c) (ho.take c) (by intro e; have := congrArg List.length e; simp at this; omega) _ _ h1
    rw [List.take_append_drop, (decBat_ok _ _ _ h).2.1] at h2
    cases h2

theorem decBat_more (bs m : List Int) (ho : Oct bs) (hm : m ≠ []) (f : Int) (ts : List Txd) (h : decBat bs = .ok (f, ts)) : decBat (bs ++ m) = .error (if (bs ++ m).length ≤ 65536 then 3 else 4) := by
  unfold decBat
  rw [tkBat_more bs m ho hm f ts (decBat_ok _ _ _ h).2.1]
  split <;> rfl

theorem decBat_pos (bs : List Int) (f : Int) (ts : List Txd) (h : decBat bs = .ok (f, ts)) : 0 < bs.length := by
  cases bs with
  | nil =>
    have h1 := (decBat_ok _ _ _ h).2.1
    have e : tkBat [] = .error 2 := by rfl
    rw [e] at h1
    cases h1
  | cons b bs => simp

/-! What is read is laid to the same bytes. -/
theorem tkVs_part (bs : List Int) (ho : Oct bs) (most : Int) : ∀ (n a : Nat) (vs : List Vd) (a2 : Nat), tkVs bs most n a = .ok (vs, a2) → vs.flatMap vB = part bs a a2 ∧ a ≤ a2 ∧ (∀ v ∈ vs, VdOk v) ∧ vs.length = n := by
  intro n
  induction n with
  | zero => intro a xs a2 h; rw [tkVs] at h; injection h with h; injection h with h1 h2; subst h1 h2; exact ⟨by simp [part_nil], Nat.le_refl _, fun x hx => by simp at hx, rfl⟩
  | succ n ih =>
    intro a xs a2 h
    rw [tkVs] at h
    cases hI : tkVal bs most a with
    | error E => rw [hI] at h; cases h
    | ok r =>
      obtain ⟨d, a3⟩ := r
      obtain ⟨p1, p2, p3⟩ := tkVal_part bs ho most a d a3 hI
      rw [hI] at h
      dsimp only at h
      cases hC : tkVs bs most n a3 with
      | error E => rw [hC] at h; cases h
      | ok r =>
        obtain ⟨ys, a4⟩ := r
        obtain ⟨q1, q2, q3, q4⟩ := ih a3 ys a4 hC
        rw [hC] at h
        injection h with h
        injection h with h1 h2
        subst h1 h2
        refine ⟨?_, by omega, ?_, by rw [List.length_cons, q4]⟩
        · rw [List.flatMap_cons, q1, ← part_add bs a a3 a4 p2 q2, ← p1]
          rfl
        · intro y hy
          rcases List.mem_cons.1 hy with rfl | hy
          · exact p3
          · exact q3 y hy

theorem tkTx_part (bs : List Int) (ho : Oct bs) (a : Nat) (t : Txd) (a2 : Nat) (h : tkTx bs a = .ok (t, a2)) : txB t = part bs a a2 ∧ a ≤ a2 ∧ TxOk t := by
  unfold tkTx at h
  obtain ⟨⟨⟨k, u⟩, a1, e1⟩, htk⟩ : ∃ t, takeZ 0 1 bs a 0 = t := ⟨_, rfl⟩
  rw [htk] at h
  dsimp only at h
  by_cases h0 : e1 = 0
  · subst h0
    rw [if_pos rfl] at h
    obtain ⟨p1, p2⟩ := takeZ_byte_part bs a ho k u a1 htk
    by_cases h1 : k = 1
    · subst h1
      rw [if_pos rfl] at h
      unfold tkDef at h
      obtain ⟨⟨⟨v, s⟩, a3, e3⟩, htx⟩ : ∃ t, takeZ 3 bs.length bs a1 0 = t := ⟨_, rfl⟩
      rw [htx] at h
      dsimp only at h
      by_cases h3 : e3 = 0
      · subst h3
        rw [if_pos rfl] at h
        obtain ⟨ot, q1, _, q2⟩ := takeZ_txt ho htx
        cases hD : decP s with
        | error E => rw [hD] at h; cases h
        | ok r =>
          obtain ⟨nm, ar, xs⟩ := r
          rw [hD] at h
          injection h with h
          injection h with h4 h5
          subst h4 h5
          obtain ⟨b1, b2⟩ := tkProc_bytes s ot nm ar xs (decP_ok _ _ _ _ hD).1
          refine ⟨?_, by omega, b2, fun v hv => by simp at hv⟩
          unfold txB
          dsimp only
          rw [if_pos rfl, b1, List.append_assoc, q2, ← p1]
          exact part_add bs a a1 a3 p2 q1
      · rw [if_neg h3] at h; cases h
    · rw [if_neg h1] at h
      by_cases h2 : k = 2
      · subst h2
        rw [if_pos rfl] at h
        unfold tkCal at h
        obtain ⟨⟨⟨v, s⟩, a3, e3⟩, htx⟩ : ∃ t, takeZ 3 32 bs a1 0 = t := ⟨_, rfl⟩
        rw [htx] at h
        dsimp only at h
        by_cases h3 : e3 = 0
        · subst h3
          rw [if_pos rfl] at h
          obtain ⟨ot, q1, _, q2⟩ := takeZ_txt ho htx
          unfold tkCalN at h
          obtain ⟨⟨⟨n, s2⟩, a4, e4⟩, htn⟩ : ∃ t, takeZ 1 0 bs a3 0 = t := ⟨_, rfl⟩
          rw [htn] at h
          dsimp only at h
          by_cases h4 : e4 = 0
          · subst h4
            rw [if_pos rfl] at h
            obtain ⟨r1, _, r2, _, r3⟩ := takeZ_row ho (by decide) (by decide) htn
            by_cases h5 : n ≤ 16
            · rw [if_pos h5] at h
              cases hC : tkVs bs bs.length n.toNat a4 with
              | error E => rw [hC] at h; cases h
              | ok r =>
                obtain ⟨vs, a5⟩ := r
                obtain ⟨c1, c2, c3, c4⟩ := tkVs_part bs ho _ _ _ _ _ hC
                rw [hC] at h
                injection h with h
                injection h with h6 h7
                subst h6 h7
                refine ⟨?_, by omega, fun x hx => by simp at hx, c3⟩
                unfold txB
                dsimp only
                have : ((n.toNat : Nat) : Int) = n := by omega
                rw [if_neg (by decide), strBs_mkStr s ot, c1, c4, this, r3, ← p1, List.append_assoc (part bs a a1), q2]
                show part bs a a1 ++ part bs a1 a3 ++ part bs a3 a4 ++ part bs a4 a5 = part bs a a5
                rw [part_add bs a a1 a3 p2 q1, part_add bs a a3 a4 (by omega) r2, part_add bs a a4 a5 (by omega) c2]
            · rw [if_neg h5] at h; cases h
          · rw [if_neg h4] at h; cases h
        · rw [if_neg h3] at h; cases h
      · rw [if_neg h2] at h; cases h
  · rw [if_neg h0] at h; cases h

theorem tkTs_part (bs : List Int) (ho : Oct bs) : ∀ (n a : Nat) (ts : List Txd) (a2 : Nat), tkTs bs n a = .ok (ts, a2) → ts.flatMap txB = part bs a a2 ∧ a ≤ a2 ∧ (∀ t ∈ ts, TxOk t) ∧ ts.length = n := by
  intro n
  induction n with
  | zero => intro a xs a2 h; rw [tkTs] at h; injection h with h; injection h with h1 h2; subst h1 h2; exact ⟨by simp [part_nil], Nat.le_refl _, fun x hx => by simp at hx, rfl⟩
  | succ n ih =>
    intro a xs a2 h
    rw [tkTs] at h
    cases hI : tkTx bs a with
    | error E => rw [hI] at h; cases h
    | ok r =>
      obtain ⟨d, a3⟩ := r
      obtain ⟨p1, p2, p3⟩ := tkTx_part bs ho a d a3 hI
      rw [hI] at h
      dsimp only at h
      cases hC : tkTs bs n a3 with
      | error E => rw [hC] at h; cases h
      | ok r =>
        obtain ⟨ys, a4⟩ := r
        obtain ⟨q1, q2, q3, q4⟩ := ih a3 ys a4 hC
        rw [hC] at h
        injection h with h
        injection h with h1 h2
        subst h1 h2
        refine ⟨?_, by omega, ?_, by rw [List.length_cons, q4]⟩
        · rw [List.flatMap_cons, q1, p1, part_add bs a a3 a4 p2 q2]
        · intro y hy
          rcases List.mem_cons.1 hy with rfl | hy
          · exact p3
          · exact q3 y hy

theorem tkBat_bytes (bs : List Int) (ho : Oct bs) (f : Int) (ts : List Txd) (h : tkBat bs = .ok (f, ts)) : batB f ts = bs ∧ (∀ t ∈ ts, TxOk t) ∧ ts.length ≤ 64 := by
  obtain ⟨t1, a1, n, t2, a2, a3, h1, h2, h64, hC, hE⟩ := tkBat_ok bs f ts h
  obtain ⟨r1, _, r2, _, r3⟩ := takeZ_row ho (by decide) (by decide) h1
  obtain ⟨v1, _, v2, _, v3⟩ := takeZ_row ho (by decide) (by decide) h2
  obtain ⟨c1, c2, c3, c4⟩ := tkTs_part bs ho _ _ _ _ hC
  have hend := (endZ_zero hE).2
  refine ⟨?_, c3, by omega⟩
  unfold batB
  rw [c1, r3, c4]
  have : ((n.toNat : Nat) : Int) = n := by omega
  rw [this, v3]
  show part bs 0 a1 ++ part bs a1 a2 ++ part bs a2 a3 = bs
  rw [part_add bs 0 a1 a2 r2 v2, part_add bs 0 a2 a3 (by omega) c2]
  unfold part
  rw [List.drop_zero, List.take_of_length_le (by omega)]

/-! Lengths. -/
theorem encB_small (k i : Int) (s : ByteArray) (h : chk k i s = 0) : (encB k i s).length ≤ 300 := by
  have hs : k = 2 → s.size ≤ 256 := by
    intro hk
    subst hk
    unfold chk at h
    revert h
    repeat' split
    all_goals first | omega | simp_all
  unfold encB
  split
  · have := rowF_le 10 (foldZ i); simp; omega
  · split
    · have := rowF_le 10 ((strBs s).length : Nat); have := strBs_len s; have := hs (by assumption); simp only [List.length_append, List.length_singleton]; omega
    · simp

theorem insBx_small (x : Ins) (h : chk x.k x.i x.t = 0) : (insBx x).length ≤ 2000 := by
  unfold insBx insB
  have h1 := flds_len x (opF (opN x.op))
  have h2 := opF_len (opN x.op)
  have h3 := encB_small x.k x.i x.t h
  have h4 := rowF_le 10 ((encB x.k x.i x.t).length : Nat)
  simp only [List.length_append, List.length_singleton]
  split
  · simp only [valB, List.length_append]; omega
  · simp only [List.length_nil]; omega

theorem flat_lenI {α : Type} (g : α → List Int) (c : Nat) : ∀ (xs : List α), (∀ x ∈ xs, (g x).length ≤ c) → (xs.flatMap g).length ≤ c * xs.length := by
  intro xs
  induction xs with
  | nil => intro _; simp
  | cons x xs ih =>
    intro h
    rw [List.flatMap_cons, List.length_append, List.length_cons]
    have := h x (by simp)
    have := ih (fun y hy => h y (by simp [hy]))
    rw [Nat.mul_succ]
    omega

theorem procB_small (nm : ByteArray) (ar : Int) (xs : List Ins) (h : (procChk nm ar xs).2 = 0) : (procB nm ar xs).length ≤ 130000 := by
  have g := good_of h
  have h1 := flat_lenI insBx 2000 xs (fun x hx => by
    obtain ⟨j, hj⟩ := List.getElem?_of_mem hx
    exact insBx_small x (g.at hj).2.2)
  have h2 := g.len
  have h3 := g.size
  have h4 := strBs_len nm
  have h5 := rowF_le 10 ((strBs nm).length : Nat)
  have h6 := rowF_le 10 ar
  have h7 := rowF_le 10 (xs.length : Int)
  have h8 : 2000 * xs.length ≤ 2000 * 64 := Nat.mul_le_mul_left _ h2
  unfold procB
  simp only [List.length_append]
  omega

theorem vsChk_all : ∀ (vs : List Vd), vsChk vs = 0 → ∀ v ∈ vs, chk v.k v.i v.t = 0 := by
  intro vs
  induction vs with
  | nil => intro _ v hv; simp at hv
  | cons x vs ih =>
    intro h v hv
    rw [vsChk] at h
    by_cases h0 : chk x.k x.i x.t = 0
    · rw [if_pos h0] at h
      rcases List.mem_cons.1 hv with rfl | hv
      · exact h0
      · exact ih h v hv
    · rw [if_neg h0] at h; exact absurd h h0

theorem tsChk_all : ∀ (ts : List Txd), tsChk ts = 0 → ∀ t ∈ ts, txChk t = 0 := by
  intro ts
  induction ts with
  | nil => intro _ v hv; simp at hv
  | cons x ts ih =>
    intro h v hv
    rw [tsChk] at h
    by_cases h0 : txChk x = 0
    · rw [if_pos h0] at h
      rcases List.mem_cons.1 hv with rfl | hv
      · exact h0
      · exact ih h v hv
    · rw [if_neg h0] at h; exact absurd h h0

/-- A transaction that Check takes. -/
theorem txChk_good (t : Txd) (h : txChk t = 0) :
    (t.k = 1 ∧ t.nm = emp ∧ t.vs = [] ∧ (procChk t.pn t.pa t.xs).2 = 0) ∨
    (t.k = 2 ∧ t.pn = emp ∧ t.pa = 0 ∧ t.xs = [] ∧ nameB t.nm = true ∧ t.vs.length ≤ 16 ∧ ∀ v ∈ t.vs, chk v.k v.i v.t = 0) := by
  unfold txChk at h
  by_cases h0 : txHead t = 0
  · rw [if_pos h0] at h
    have hv := vsChk_all _ h
    unfold txHead at h0
    split at h0
    · split at h0
      · rename_i h1 h2
        exact .inl ⟨h1, h2.1, h2.2, h0⟩
      · omega
    · split at h0
      · split at h0
        · split at h0
          · split at h0
            · rename_i h1 h2 h3 h4 h5
              exact .inr ⟨h2, h3.1, h3.2.1, h3.2.2, h4, h5, hv⟩
            · omega
          · omega
        · omega
      · omega
  · rw [if_neg h0] at h; exact absurd h h0

theorem name_size {s : ByteArray} (h : nameB s = true) : s.size ≤ 32 := by
  simp only [nameB, decide_eq_true_eq] at h
  exact h.2.1

theorem vB_small (v : Vd) (h : chk v.k v.i v.t = 0) : (vB v).length ≤ 320 := by
  have h1 := encB_small v.k v.i v.t h
  have h2 := rowF_le 10 ((encB v.k v.i v.t).length : Nat)
  unfold vB
  rw [List.length_append]
  omega

theorem txB_small (t : Txd) (h : txChk t = 0) : (txB t).length ≤ 140000 := by
  rcases txChk_good t h with ⟨hk, _, _, hp⟩ | ⟨hk, _, _, _, hn, hl, hv⟩
  · unfold txB
    rw [if_pos hk]
    have h1 := procB_small t.pn t.pa t.xs hp
    have h2 := rowF_le 10 ((procB t.pn t.pa t.xs).length : Nat)
    simp only [List.length_append, List.length_singleton]
    omega
  · unfold txB
    rw [if_neg (by omega)]
    have h1 := flat_lenI vB 320 t.vs (fun v hv2 => vB_small v (hv v hv2))
    have h2 := rowF_le 10 ((strBs t.nm).length : Nat)
    have h3 := rowF_le 10 (t.vs.length : Int)
    have h4 := strBs_len t.nm
    have h5 := name_size hn
    have h6 : 320 * t.vs.length ≤ 320 * 16 := Nat.mul_le_mul_left _ hl
    simp only [List.length_append, List.length_singleton]
    omega

theorem batB_small (f : Int) (ts : List Txd) (h : tsChk ts = 0) (hl : ts.length ≤ 64) : (batB f ts).length ≤ 10000000 := by
  have h1 := flat_lenI txB 140000 ts (fun t ht => txB_small t (tsChk_all ts h t ht))
  have h2 := rowF_le 10 f
  have h3 := rowF_le 10 (ts.length : Int)
  have h6 : 140000 * ts.length ≤ 140000 * 64 := Nat.mul_le_mul_left _ hl
  unfold batB
  simp only [List.length_append]
  omega

theorem batChk_good (f : Int) (ts : List Txd) (h : batChk f ts = 0) : 1 ≤ f ∧ f ≤ 281474976710655 ∧ 1 ≤ ts.length ∧ ts.length ≤ 64 ∧ f + ts.length - 1 ≤ 281474976710655 ∧ tsChk ts = 0 := by
  unfold batChk at h
  split at h
  · split at h
    · rename_i h1 h2
      exact ⟨h1.1, h1.2.1, h1.2.2.1, h1.2.2.2, h2, h⟩
    · omega
  · omega

end Go.Proofs.Ytdnlfacfleemeaa

namespace Go.Proofs.Ytdnlfacfleemeaa
open Go.RowKit Go.Lib

/-- A value's cells at an address. -/
structure VdAt (w : World) (b o : Nat) (v : Vd) : Prop where
  c0 : w.cell? ⟨b, o, none⟩ = some (.int .i64 v.k)
  c1 : w.cell? ⟨b, o + 1, none⟩ = some (.int .i64 v.i)
  c2 : w.cell? ⟨b, o + 2, none⟩ = some (.string v.t)

theorem VdAt.lt {w : World} {b o : Nat} {v : Vd} (h : VdAt w b o v) : b < w.heap.size := World.block_lt_of_cell? w _ h.c0
theorem VdAt.same {w w' : World} {b o : Nat} {v : Vd} (h : VdAt w b o v) (hb : w'.heap[b]? = w.heap[b]?) : VdAt w' b o v := by
  have e : ∀ k, w'.cell? ⟨b, k, none⟩ = w.cell? ⟨b, k, none⟩ := fun k => World.cell?_of_block (a := ⟨b, k, none⟩) hb
  exact ⟨(e _).trans h.c0, (e _).trans h.c1, (e _).trans h.c2⟩

/-- Lists in memory, in blocks from B on. -/
def VsAt (B : Nat) (w : World) (S : Value) (vs : List Vd) : Prop :=
  ∃ ao cap, S = .slice ao vs.length cap ∧ vs.length ≤ cap ∧ (vs ≠ [] → ∃ b off, ao = some ⟨b, off, none⟩ ∧ B ≤ b ∧ ∀ j v, vs[j]? = some v → VdAt w b (off + j * 3) v)

def CdAt (B : Nat) (w : World) (S : Value) (xs : List Ins) : Prop :=
  ∃ ao cap, S = .slice ao xs.length cap ∧ xs.length ≤ cap ∧ (xs ≠ [] → ∃ b off, ao = some ⟨b, off, none⟩ ∧ B ≤ b ∧ ∀ j x, xs[j]? = some x → InsAt w b (off + j * 8) x)

theorem CdAt.code {B : Nat} {w : World} {S : Value} {xs : List Ins} (h : CdAt B w S xs) : CodeAt w S xs := by
  obtain ⟨ao, cap, h1, h2, h3⟩ := h
  refine ⟨ao, cap, h1, h2, fun hn => ?_⟩
  obtain ⟨b, off, h4, _, h5⟩ := h3 hn
  exact ⟨b, off, h4, h5⟩

/-- What lies from B on is the same. -/
def Same (B : Nat) (w w' : World) : Prop := ∀ k, B ≤ k → k < w.heap.size → w'.heap[k]? = w.heap[k]?

theorem Same.below {B : Nat} {w w' : World} (h : Below w.heap.size w w') : Same B w w' := fun k _ hk => h.block k hk
theorem Same.kept {B : Nat} {w w' : World} {P : Nat → Prop} (h : Kept P w w') (hp : ∀ k, B ≤ k → k < w.heap.size → ¬ P k) : Same B w w' := fun k h1 h2 => h.block k h2 (hp k h1 h2)

theorem VsAt.same {B : Nat} {w w' : World} {S : Value} {vs : List Vd} (h : VsAt B w S vs) (hs : Same B w w') : VsAt B w' S vs := by
  obtain ⟨ao, cap, h1, h2, h3⟩ := h
  refine ⟨ao, cap, h1, h2, fun hn => ?_⟩
  obtain ⟨b, off, h4, hB, h5⟩ := h3 hn
  exact ⟨b, off, h4, hB, fun j x hx => (h5 j x hx).same (hs b hB (h5 j x hx).lt)⟩

theorem CdAt.same {B : Nat} {w w' : World} {S : Value} {xs : List Ins} (h : CdAt B w S xs) (hs : Same B w w') : CdAt B w' S xs := by
  obtain ⟨ao, cap, h1, h2, h3⟩ := h
  refine ⟨ao, cap, h1, h2, fun hn => ?_⟩
  obtain ⟨b, off, h4, hB, h5⟩ := h3 hn
  exact ⟨b, off, h4, hB, fun j x hx => (h5 j x hx).same (hs b hB (h5 j x hx).lt)⟩

theorem VsAt.mono {B B' : Nat} {w : World} {S : Value} {vs : List Vd} (h : VsAt B w S vs) (hB : B' ≤ B) : VsAt B' w S vs := by
  obtain ⟨ao, cap, h1, h2, h3⟩ := h
  refine ⟨ao, cap, h1, h2, fun hn => ?_⟩
  obtain ⟨b, off, h4, hB2, h5⟩ := h3 hn
  exact ⟨b, off, h4, by omega, h5⟩

theorem CdAt.mono {B B' : Nat} {w : World} {S : Value} {xs : List Ins} (h : CdAt B w S xs) (hB : B' ≤ B) : CdAt B' w S xs := by
  obtain ⟨ao, cap, h1, h2, h3⟩ := h
  refine ⟨ao, cap, h1, h2, fun hn => ?_⟩
  obtain ⟨b, off, h4, hB2, h5⟩ := h3 hn
  exact ⟨b, off, h4, by omega, h5⟩

/-- A transaction's cells at an address. -/
structure TxC (w : World) (b o : Nat) (t : Txd) (S1 S2 : Value) : Prop where
  c0 : w.cell? ⟨b, o, none⟩ = some (.int .i64 t.k)
  c1 : w.cell? ⟨b, o + 1, none⟩ = some (.string t.pn)
  c2 : w.cell? ⟨b, o + 2, none⟩ = some (.int .i64 t.pa)
  c3 : w.cell? ⟨b, o + 3, none⟩ = some S1
  c4 : w.cell? ⟨b, o + 4, none⟩ = some (.string t.nm)
  c5 : w.cell? ⟨b, o + 5, none⟩ = some S2

theorem TxC.lt {w : World} {b o : Nat} {t : Txd} {S1 S2 : Value} (h : TxC w b o t S1 S2) : b < w.heap.size := World.block_lt_of_cell? w _ h.c0
theorem TxC.moved {w w' : World} {b o : Nat} {t : Txd} {S1 S2 : Value} (h : TxC w b o t S1 S2) (e : ∀ m, m < 6 → w'.cell? ⟨b, o + m, none⟩ = w.cell? ⟨b, o + m, none⟩) : TxC w' b o t S1 S2 :=
  ⟨(e 0 (by decide)).trans h.c0, (e 1 (by decide)).trans h.c1, (e 2 (by decide)).trans h.c2, (e 3 (by decide)).trans h.c3, (e 4 (by decide)).trans h.c4, (e 5 (by decide)).trans h.c5⟩
theorem TxC.same {w w' : World} {b o : Nat} {t : Txd} {S1 S2 : Value} (h : TxC w b o t S1 S2) (hb : w'.heap[b]? = w.heap[b]?) : TxC w' b o t S1 S2 :=
  h.moved (fun m _ => World.cell?_of_block (a := ⟨b, o + m, none⟩) hb)

def TxAt (B : Nat) (w : World) (b o : Nat) (t : Txd) : Prop := ∃ S1 S2, TxC w b o t S1 S2 ∧ CdAt B w S1 t.xs ∧ VsAt B w S2 t.vs

theorem TxAt.lt {B : Nat} {w : World} {b o : Nat} {t : Txd} (h : TxAt B w b o t) : b < w.heap.size := by
  obtain ⟨_, _, h, _⟩ := h
  exact h.lt

theorem TxAt.same {B : Nat} {w w' : World} {b o : Nat} {t : Txd} (h : TxAt B w b o t) (hs : Same B w w') (hB : B ≤ b) : TxAt B w' b o t := by
  obtain ⟨S1, S2, h1, h2, h3⟩ := h
  exact ⟨S1, S2, h1.same (hs b hB h1.lt), h2.same hs, h3.same hs⟩

def TsAt (B : Nat) (w : World) (S : Value) (ts : List Txd) : Prop :=
  ∃ ao cap, S = .slice ao ts.length cap ∧ ts.length ≤ cap ∧ (ts ≠ [] → ∃ b off, ao = some ⟨b, off, none⟩ ∧ B ≤ b ∧ ∀ j t, ts[j]? = some t → TxAt B w b (off + j * 6) t)

theorem TsAt.same {B : Nat} {w w' : World} {S : Value} {ts : List Txd} (h : TsAt B w S ts) (hs : Same B w w') : TsAt B w' S ts := by
  obtain ⟨ao, cap, h1, h2, h3⟩ := h
  refine ⟨ao, cap, h1, h2, fun hn => ?_⟩
  obtain ⟨b, off, h4, hB, h5⟩ := h3 hn
  exact ⟨b, off, h4, hB, fun j x hx => (h5 j x hx).same hs hB⟩

theorem TsAt.below {B : Nat} {w w' : World} {S : Value} {ts : List Txd} (h : TsAt B w S ts) (hb : Below w.heap.size w w') : TsAt B w' S ts := h.same (Same.below hb)

theorem TxAt.mono {B B' : Nat} {w : World} {b o : Nat} {t : Txd} (h : TxAt B w b o t) (hB : B' ≤ B) : TxAt B' w b o t := by
  obtain ⟨S1, S2, h1, h2, h3⟩ := h
  exact ⟨S1, S2, h1, h2.mono hB, h3.mono hB⟩

theorem TsAt.mono {B B' : Nat} {w : World} {S : Value} {ts : List Txd} (h : TsAt B w S ts) (hB : B' ≤ B) : TsAt B' w S ts := by
  obtain ⟨ao, cap, h1, h2, h3⟩ := h
  refine ⟨ao, cap, h1, h2, fun hn => ?_⟩
  obtain ⟨b, off, h4, hB2, h5⟩ := h3 hn
  exact ⟨b, off, h4, by omega, fun j x hx => (h5 j x hx).mono hB⟩

end Go.Proofs.Ytdnlfacfleemeaa
