import Derived.Test.YtljfmbjibjoiiaaK16
import Derived.Test.YtljfmbjibjoiiaaK14
import Derived.Test.YtljfmbjibjoiiaaK15
import Derived.Deep.Cut
namespace Go.Proofs.Ytljfmbjibjoiiaa
open Go.RowKit

theorem take_num (ps rest : List Int) (v : Int) (h0 : 0 ≤ v) (h1 : v < 9223372036854775808) : takeZ 1 0 (ps ++ (rowF 10 v ++ rest)) ps.length 0 = ((v, []), ps.length + (rowF 10 v).length, 0) :=
  takeZ_laid 1 0 ps (rowF 10 v) rest v (by decide) (lead_num 1 (.inl rfl) v 0 rest h0 h1)

theorem take_byte (ps rest : List Int) (v : Int) (h0 : 0 ≤ v) (h1 : v < 256) : takeZ 0 1 (ps ++ ([v] ++ rest)) ps.length 0 = ((v, []), ps.length + 1, 0) := by
  have h := lead_fix v 1 rest h0 (by decide) (by decide)
  have e : fixedB (1 : Int).toNat v = [v] := by simp [fixedB, List.range_succ]; omega
  have e2 : v % 256 ^ (1 : Int).toNat = v := by simp; omega
  rw [e, e2] at h
  exact takeZ_laid 0 1 ps [v] rest v (by decide) h

theorem tkf_laid (f : Fk) (ps rest : List Int) (v : Int) (h0 : 0 ≤ v) (h1 : v < 256) : tkf f (ps ++ (fldV f v ++ rest)) ps.length = ((v, []), ps.length + (fldV f v).length, 0) := by
  have hb := take_byte ps rest v h0 h1
  have hn := take_num ps rest v h0 (by omega)
  cases f
  · exact hb
  · exact hb
  · exact hb
  · exact hn
  · exact hn
  · exact hn
  · exact hn

/-- What is struck out of x outside the fields fs. -/
theorem tkFs_laid (y : Ins) : ∀ (fs : List Fk) (x : Ins) (ps rest : List Int), (∀ f ∈ fs, 0 ≤ f.get y ∧ f.get y < 256) →
    tkFs (ps ++ (fs.flatMap (fun f => fldV f (f.get y)) ++ rest)) fs x ps.length = .ok (fs.foldl (fun x f => f.set (f.get y) x) x, ps.length + (fs.flatMap (fun f => fldV f (f.get y))).length) := by
  intro fs
  induction fs with
  | nil => intro x ps rest _; simp [tkFs]
  | cons f fs ih =>
    intro x ps rest h
    have hf := h f (by simp)
    have e : ps ++ ((f :: fs).flatMap (fun f => fldV f (f.get y)) ++ rest) = ps ++ (fldV f (f.get y) ++ (fs.flatMap (fun f => fldV f (f.get y)) ++ rest)) := by simp [List.append_assoc]
    rw [tkFs, e, tkf_laid f ps _ _ hf.1 hf.2]
    dsimp only
    rw [if_pos rfl]
    have e2 : ps ++ (fldV f (f.get y) ++ (fs.flatMap (fun f => fldV f (f.get y)) ++ rest)) = (ps ++ fldV f (f.get y)) ++ (fs.flatMap (fun f => fldV f (f.get y)) ++ rest) := by simp [List.append_assoc]
    have e3 : ps.length + (fldV f (f.get y)).length = (ps ++ fldV f (f.get y)).length := by rw [List.length_append]
    rw [e2, e3, ih _ _ _ (fun g hg => h g (by simp [hg]))]
    simp [Nat.add_assoc]

/-- A checked instruction has nothing beside its fields. -/
theorem fields_only (ar bh : Int) (fs : List Fk) (vv : Bool) (x : Ins) (h : opErr fs vv x ar bh = 0) (hd : (fs.map Fk.pos).Nodup) :
    ∃ z : Ins, chkF ar bh fs x = some z ∧ z.a = 0 ∧ z.b = 0 ∧ z.c = 0 ∧ z.n = 0 ∧ (vv = true ∨ x.k = 0 ∧ x.i = 0 ∧ x.t = emp) ∧ chk x.k x.i x.t = 0 := by
  have _ := hd
  unfold opErr at h
  cases hc : chkF ar bh fs x with
  | none => rw [hc] at h; simp at h
  | some z =>
    rw [hc] at h
    dsimp only at h
    have hk : ∀ (fs : List Fk) (x z : Ins), chkF ar bh fs x = some z → z.k = x.k ∧ z.i = x.i ∧ z.t = x.t := by
      intro fs
      induction fs with
      | nil => intro x z h; rw [chkF] at h; injection h with h; rw [h]; exact ⟨rfl, rfl, rfl⟩
      | cons f fs ih =>
        intro x z h
        rw [chkF] at h
        split at h
        · obtain ⟨e1, e2, e3⟩ := ih _ _ h
          obtain ⟨_, r2, r3, r4⟩ := fk_rest f 0 x
          exact ⟨e1.trans r2, e2.trans r3, e3.trans r4⟩
        · cases h
    obtain ⟨k1, k2, k3⟩ := hk fs x z hc
    split at h
    · rename_i hz
      refine ⟨z, rfl, hz.1, hz.2.1, hz.2.2.1, hz.2.2.2.1, ?_, h⟩
      rw [k1, k2, k3] at hz
      exact hz.2.2.2.2
    · omega

/-- The fields put back. -/
theorem fold_back (i : Nat) (x : Ins) (ar bh : Int) (z : Ins) (h : chkF ar bh (opF i) x = some z) (ha : z.a = 0) (hb : z.b = 0) (hc : z.c = 0) (hn : z.n = 0) (op k j : Int) (t : ByteArray) :
    (opF i).foldl (fun y f => f.set (f.get x) y) ⟨op, 0, 0, 0, 0, k, j, t⟩ = ⟨op, x.a, x.b, x.c, x.n, k, j, t⟩ := by
  unfold opF at h ⊢
  split at h
  all_goals (
    simp only [chkF] at h
    repeat' split at h
    all_goals first | (cases h; done) | skip
    injection h with h
    subst h
    (try simp only [Fk.set] at ha hb hc hn)
    simp [List.foldl, Fk.get, Fk.set, ha, hb, hc, hn])

theorem tkVal_laid (most : Int) (ps rest : List Int) (k i : Int) (s : ByteArray) (h0 : -9223372036854775808 ≤ i) (h1 : i < 9223372036854775808) (hc : chk k i s = 0) (hm : ((encB k i s).length : Int) ≤ most) :
    tkVal (ps ++ (rowF 10 ((encB k i s).length : Nat) ++ (encB k i s ++ rest))) most ps.length = .ok ((k, i, strBs s), ps.length + ((rowF 10 ((encB k i s).length : Nat)).length + (encB k i s).length)) := by
  have hl := (encB_len k i s hc h0 h1).1
  have e := takeZ_text most ps (encB k i s) rest hm (by omega)
  unfold tkVal
  rw [e]
  dsimp only
  rw [if_pos rfl, dec_enc k i s h0 h1 hc]
  dsimp only
  rw [if_pos rfl]

theorem insBx_eq (x : Ins) : insBx x = [x.op] ++ ((opF (opN x.op)).flatMap (fun f => fldV f (f.get x)) ++ (if (opN x.op == 1) = true then valB x else [])) := by
  unfold insBx insB
  rw [List.append_assoc]

theorem tkIns_laid (most : Int) (ps rest : List Int) (x : Ins) (ar bh : Int) (he : insErr x ar bh = 0) (a0 : 0 ≤ ar) (a1 : ar ≤ 16) (hb : bh ≤ 200) (hi : InsOk x) (hm : ((insBx x).length : Int) ≤ most) :
    tkIns (ps ++ (insBx x ++ rest)) most ps.length = .ok (x, ps.length + (insBx x).length) := by
  obtain ⟨hop, hf, hc⟩ := good_ins x ar bh he a0 a1 hb
  have he2 := he
  unfold insErr at he2
  rw [if_pos hop] at he2
  obtain ⟨z, hz, za, zb, zc, zn, hv, _⟩ := fields_only ar bh _ _ x he2 (opF_nodup _)
  rw [insBx_eq] at hm ⊢
  have e1 : ps ++ ([x.op] ++ ((opF (opN x.op)).flatMap (fun f => fldV f (f.get x)) ++ (if (opN x.op == 1) = true then valB x else [])) ++ rest) = ps ++ ([x.op] ++ ((opF (opN x.op)).flatMap (fun f => fldV f (f.get x)) ++ ((if (opN x.op == 1) = true then valB x else []) ++ rest))) := by simp [List.append_assoc]
  have e2 : ps ++ ([x.op] ++ ((opF (opN x.op)).flatMap (fun f => fldV f (f.get x)) ++ ((if (opN x.op == 1) = true then valB x else []) ++ rest))) = (ps ++ [x.op]) ++ ((opF (opN x.op)).flatMap (fun f => fldV f (f.get x)) ++ ((if (opN x.op == 1) = true then valB x else []) ++ rest)) := by simp [List.append_assoc]
  have e3 : (ps ++ [x.op]) ++ ((opF (opN x.op)).flatMap (fun f => fldV f (f.get x)) ++ ((if (opN x.op == 1) = true then valB x else []) ++ rest)) = (ps ++ [x.op] ++ (opF (opN x.op)).flatMap (fun f => fldV f (f.get x))) ++ ((if (opN x.op == 1) = true then valB x else []) ++ rest) := by simp [List.append_assoc]
  have t1 := take_byte ps ((opF (opN x.op)).flatMap (fun f => fldV f (f.get x)) ++ ((if (opN x.op == 1) = true then valB x else []) ++ rest)) x.op (by omega) (by omega)
  have t2 := tkFs_laid x (opF (opN x.op)) (zIns x.op) (ps ++ [x.op]) ((if (opN x.op == 1) = true then valB x else []) ++ rest) hf
  unfold tkIns
  rw [e1, t1]
  dsimp only
  rw [if_pos rfl, if_pos hop, e2, show ps.length + 1 = (ps ++ [x.op]).length by simp, t2]
  have e4 : (opF (opN x.op)).foldl (fun y f => f.set (f.get x) y) (zIns x.op) = ⟨x.op, x.a, x.b, x.c, x.n, 0, 0, emp⟩ := fold_back _ x ar bh z hz za zb zc zn x.op 0 0 emp
  rw [e4]
  unfold tkAfter
  dsimp only
  by_cases hv1 : (opN x.op == 1) = true
  · rw [if_pos hv1]
    have hlen : ((encB x.k x.i x.t).length : Int) ≤ most := by
      rw [if_pos hv1] at hm
      simp only [valB, List.length_append] at hm
      omega
    have t3 := tkVal_laid most (ps ++ [x.op] ++ (opF (opN x.op)).flatMap (fun f => fldV f (f.get x))) rest x.k x.i x.t hi.1 hi.2 hc hlen
    rw [e3, if_pos hv1]
    have e5 : valB x ++ rest = rowF 10 ((encB x.k x.i x.t).length : Nat) ++ (encB x.k x.i x.t ++ rest) := by simp [valB, List.append_assoc]
    rw [e5, show (ps ++ [x.op]).length + ((opF (opN x.op)).flatMap (fun f => fldV f (f.get x))).length = (ps ++ [x.op] ++ (opF (opN x.op)).flatMap (fun f => fldV f (f.get x))).length from List.length_append.symm, t3]
    dsimp only
    rw [mkStr_strBs]
    congr 2
    simp [valB]
    omega
  · rw [if_neg hv1, if_neg hv1]
    rcases hv with hv | ⟨v1, v2, v3⟩
    · exact absurd hv hv1
    · congr 2
      · obtain ⟨o, a, b, c, n, k, i, t⟩ := x
        dsimp only at v1 v2 v3 ⊢
        rw [v1, v2, v3]
      · simp
        omega

theorem tkCode_laid (most : Int) (ar : Int) (len : Nat) (a0 : 0 ≤ ar) (a1 : ar ≤ 16) (hl : len ≤ 64) : ∀ (xs : List Ins) (j : Nat) (ps rest : List Int), (∀ (q : Nat) (x : Ins), xs[q]? = some x → insErr x ar ((len : Int) - 1 - (j + q : Nat)) = 0) → (∀ x ∈ xs, InsOk x) → (∀ x ∈ xs, ((insBx x).length : Int) ≤ most) →
    tkCode (ps ++ (xs.flatMap insBx ++ rest)) most xs.length ps.length = .ok (xs, ps.length + (xs.flatMap insBx).length) := by
  intro xs
  induction xs with
  | nil => intro j ps rest _ _ _; simp [tkCode]
  | cons x xs ih =>
    intro j ps rest he hi hm
    have e : ps ++ ((x :: xs).flatMap insBx ++ rest) = ps ++ (insBx x ++ (xs.flatMap insBx ++ rest)) := by simp [List.append_assoc]
    have t := tkIns_laid most ps (xs.flatMap insBx ++ rest) x ar _ (he 0 x (by simp)) a0 a1 (by omega) (hi x (by simp)) (hm x (by simp))
    rw [List.length_cons, tkCode, e, t]
    dsimp only
    have e2 : ps ++ (insBx x ++ (xs.flatMap insBx ++ rest)) = (ps ++ insBx x) ++ (xs.flatMap insBx ++ rest) := by simp [List.append_assoc]
    have e3 : ps.length + (insBx x).length = (ps ++ insBx x).length := by rw [List.length_append]
    rw [e2, e3, ih (j + 1) _ _ (fun q y hy => by have := he (q + 1) y (by simpa using hy); rw [show j + 1 + q = j + (q + 1) by omega]; exact this) (fun y hy => hi y (by simp [hy])) (fun y hy => hm y (by simp [hy]))]
    dsimp only
    simp [Nat.add_assoc]

theorem flat_mem_len (xs : List Ins) (x : Ins) (h : x ∈ xs) : (insBx x).length ≤ (xs.flatMap insBx).length := by
  induction xs with
  | nil => simp at h
  | cons y xs ih =>
    rw [List.flatMap_cons, List.length_append]
    rcases List.mem_cons.1 h with rfl | h
    · omega
    · have := ih h; omega

/-- There and back: P6.4. -/
theorem dec_procB (nm : ByteArray) (ar : Int) (xs : List Ins) (hg : (procChk nm ar xs).2 = 0) (hi : ∀ x ∈ xs, InsOk x) : decP (procB nm ar xs) = .ok (strBs nm, ar, xs) := by
  have g := good_of hg
  have hsz := g.size
  have hsl := strBs_len nm
  have hlen := g.len
  have hbl : ∀ x ∈ xs, ((insBx x).length : Int) ≤ ((procB nm ar xs).length : Int) := by
    intro x hx
    have := flat_mem_len xs x hx
    unfold procB
    simp only [List.length_append]
    omega
  have t1 := takeZ_text 32 [] (strBs nm) (rowF 10 ar ++ (rowF 10 (xs.length : Int) ++ (xs.flatMap insBx ++ []))) (by omega) (by omega)
  have t2 := take_num (rowF 10 (strBs nm).length ++ strBs nm) (rowF 10 (xs.length : Int) ++ (xs.flatMap insBx ++ [])) ar g.a0 (by have := g.a1; omega)
  have t3 := take_num (rowF 10 (strBs nm).length ++ strBs nm ++ rowF 10 ar) (xs.flatMap insBx ++ []) (xs.length : Int) (by omega) (by omega)
  have t4 := tkCode_laid ((procB nm ar xs).length : Int) ar xs.length g.a0 g.a1 hlen xs 0 (rowF 10 (strBs nm).length ++ strBs nm ++ rowF 10 ar ++ rowF 10 (xs.length : Int)) [] (fun q x hx => by rw [Nat.zero_add]; exact g.ins q x hx) hi hbl
  have eB : ∀ a b : List Int, procB nm ar xs = a → procB nm ar xs = b → a = b := fun a b h1 h2 => h1.symm.trans h2
  have p1 : procB nm ar xs = [] ++ (rowF 10 (strBs nm).length ++ (strBs nm ++ (rowF 10 ar ++ (rowF 10 (xs.length : Int) ++ (xs.flatMap insBx ++ []))))) := by unfold procB; simp [List.append_assoc]
  have p2 : procB nm ar xs = (rowF 10 (strBs nm).length ++ strBs nm) ++ (rowF 10 ar ++ (rowF 10 (xs.length : Int) ++ (xs.flatMap insBx ++ []))) := by unfold procB; simp [List.append_assoc]
  have p3 : procB nm ar xs = (rowF 10 (strBs nm).length ++ strBs nm ++ rowF 10 ar) ++ (rowF 10 (xs.length : Int) ++ (xs.flatMap insBx ++ [])) := by unfold procB; simp [List.append_assoc]
  have p4 : procB nm ar xs = (rowF 10 (strBs nm).length ++ strBs nm ++ rowF 10 ar ++ rowF 10 (xs.length : Int)) ++ (xs.flatMap insBx ++ []) := by unfold procB; simp [List.append_assoc]
  rw [← p1] at t1
  rw [← p2] at t2
  rw [← p3] at t3
  rw [← p4] at t4
  have q2 : ([] : List Int).length + ((rowF 10 ((strBs nm).length : Int)).length + (strBs nm).length) = (rowF 10 (strBs nm).length ++ strBs nm).length := by simp
  have q3 : (rowF 10 ((strBs nm).length : Int) ++ strBs nm).length + (rowF 10 ar).length = (rowF 10 (strBs nm).length ++ strBs nm ++ rowF 10 ar).length := by simp; omega
  have q4 : (rowF 10 ((strBs nm).length : Int) ++ strBs nm ++ rowF 10 ar).length + (rowF 10 (xs.length : Int)).length = (rowF 10 (strBs nm).length ++ strBs nm ++ rowF 10 ar ++ rowF 10 (xs.length : Int)).length := by simp; omega
  have hT : tkProc (procB nm ar xs) = .ok (strBs nm, ar, xs) := by
    unfold tkProc
    rw [show takeZ 3 32 (procB nm ar xs) 0 0 = _ from t1]
    dsimp only
    rw [q2, t2]
    dsimp only
    rw [q3, t3]
    dsimp only
    rw [if_pos rfl, if_pos (by omega), Int.toNat_natCast, q4, t4]
    unfold tkEnd
    dsimp only
    have hE : endZ (procB nm ar xs).length ((rowF 10 (strBs nm).length ++ strBs nm ++ rowF 10 ar ++ rowF 10 (xs.length : Int)).length + (xs.flatMap insBx).length) 0 = 0 := by
      unfold endZ
      rw [if_pos rfl, if_neg]
      rw [p4]
      simp
      omega
    rw [hE, if_pos rfl]
  unfold decP
  rw [hT]
  dsimp only
  rw [mkStr_strBs, if_pos hg]

end Go.Proofs.Ytljfmbjibjoiiaa

namespace Go.Proofs.Ytljfmbjibjoiiaa
open Go.RowKit Go.Lib

theorem tkFs_err (bs : List Int) : ∀ (fs : List Fk) (x : Ins) (a : Nat) (E : Int), tkFs bs fs x a = .error E → E ≠ 0 := by
  intro fs
  induction fs with
  | nil => intro x a E h; rw [tkFs] at h; cases h
  | cons f fs ih =>
    intro x a E h
    rw [tkFs] at h
    by_cases h0 : (tkf f bs a).2.2 = 0
    · rw [if_pos h0] at h; exact ih _ _ _ h
    · rw [if_neg h0] at h; injection h with h; rw [← h]; exact h0

theorem tkVal_err (bs : List Int) (most : Int) (a : Nat) (E : Int) (h : tkVal bs most a = .error E) : E ≠ 0 := by
  unfold tkVal at h
  split at h
  · split at h
    · cases h
    · rename_i h0; injection h with h; rw [← h]; exact h0
  · rename_i h0; injection h with h; rw [← h]; exact h0

theorem tkIns_err (bs : List Int) (most : Int) (a : Nat) (E : Int) (h : tkIns bs most a = .error E) : E ≠ 0 := by
  unfold tkIns at h
  split at h
  · split at h
    · cases hT : tkFs bs (opF (opN (takeZ 0 1 bs a 0).1.1)) (zIns (takeZ 0 1 bs a 0).1.1) (takeZ 0 1 bs a 0).2.1 with
      | error E2 =>
        rw [hT] at h
        have h : E2 = E := by simpa [tkAfter] using h
        rw [← h]
        exact tkFs_err bs _ _ _ _ hT
      | ok r =>
        obtain ⟨x, a2⟩ := r
        rw [hT] at h
        unfold tkAfter at h
        dsimp only at h
        split at h
        · cases hV : tkVal bs most a2 with
          | error E2 =>
            rw [hV] at h
            have h : E2 = E := by simpa using h
            rw [← h]
            exact tkVal_err bs most a2 E2 hV
          | ok r => rw [hV] at h; cases h
        · cases h
    · injection h with h; rw [← h]; decide
  · rename_i h0; injection h with h; rw [← h]; exact h0

theorem tkCode_err (bs : List Int) (most : Int) : ∀ (n a : Nat) (E : Int), tkCode bs most n a = .error E → E ≠ 0 := by
  intro n
  induction n with
  | zero => intro a E h; rw [tkCode] at h; cases h
  | succ n ih =>
    intro a E h
    rw [tkCode] at h
    cases hI : tkIns bs most a with
    | error E2 =>
      rw [hI] at h
      have h : E2 = E := by simpa using h
      rw [← h]
      exact tkIns_err bs most a E2 hI
    | ok r =>
      obtain ⟨x, a2⟩ := r
      rw [hI] at h
      dsimp only at h
      cases hC : tkCode bs most n a2 with
      | error E2 =>
        rw [hC] at h
        have h : E2 = E := by simpa using h
        rw [← h]
        exact ih a2 E2 hC
      | ok r => rw [hC] at h; cases h

theorem tkProc_err (bs : List Int) (E : Int) (h : tkProc bs = .error E) : E ≠ 0 := by
  unfold tkProc at h
  split at h
  · split at h
    · unfold tkEnd at h
      split at h
      · rename_i E2 hC
        have h : E2 = E := by simpa using h
        rw [← h]
        exact tkCode_err _ _ _ _ _ hC
      · split at h
        · cases h
        · rename_i h0; injection h with h; rw [← h]; exact h0
    · injection h with h; rw [← h]; decide
  · rename_i h0; injection h with h; rw [← h]; exact h0

theorem decP_err (bs : List Int) (E : Int) (h : decP bs = .error E) : E ≠ 0 := by
  unfold decP at h
  cases hT : tkProc bs with
  | error E2 =>
    rw [hT] at h
    have h : E2 = E := by simpa using h
    rw [← h]
    exact tkProc_err bs E2 hT
  | ok r =>
    obtain ⟨nm, ar, xs⟩ := r
    rw [hT] at h
    dsimp only at h
    split at h
    · cases h
    · rename_i h0; injection h with h; rw [← h]; exact h0

theorem decP_ok (bs : List Int) (nm : List Int) (ar : Int) (xs : List Ins) (h : decP bs = .ok (nm, ar, xs)) : tkProc bs = .ok (nm, ar, xs) ∧ (procChk (mkStr nm) ar xs).2 = 0 := by
  unfold decP at h
  cases hT : tkProc bs with
  | error E2 => rw [hT] at h; cases h
  | ok r =>
    obtain ⟨nm', ar', xs'⟩ := r
    rw [hT] at h
    dsimp only at h
    split at h
    · rename_i h0
      injection h with h
      injection h with h1 h
      injection h with h2 h3
      subst h1 h2 h3
      exact ⟨rfl, h0⟩
    · cases h

/-- Another procedure's beginning is none. -/
theorem decP_cut (bs : List Int) (ho : Oct bs) (nm : List Int) (ar : Int) (xs : List Ins) (h : decP bs = .ok (nm, ar, xs)) (c : Nat) (hc : c < bs.length) : ∃ E, decP (bs.take c) = .error E ∧ E ≠ 0 := by
  cases hD : decP (bs.take c) with
  | error E => exact ⟨E, rfl, decP_err _ _ hD⟩
  | ok r =>
    obtain ⟨nm', ar', xs'⟩ := r
    exfalso
    have h1 := (decP_ok _ _ _ _ hD).1
    have h2 := tkProc_more (bs.take c) (bs.drop c) (ho.take c) (by intro e; have := congrArg List.length e; simp at this; omega) _ _ _ h1
    rw [List.take_append_drop, (decP_ok _ _ _ _ h).1] at h2
    cases h2

theorem decP_more (bs m : List Int) (ho : Oct bs) (hm : m ≠ []) (nm : List Int) (ar : Int) (xs : List Ins) (h : decP bs = .ok (nm, ar, xs)) : decP (bs ++ m) = .error 3 := by
  unfold decP
  rw [tkProc_more bs m ho hm nm ar xs (decP_ok _ _ _ _ h).1]

theorem decP_pos (bs : List Int) (nm : List Int) (ar : Int) (xs : List Ins) (h : decP bs = .ok (nm, ar, xs)) : 0 < bs.length := by
  cases bs with
  | nil =>
    have h1 := (decP_ok _ _ _ _ h).1
    have e : tkProc [] = .error 2 := by rfl
    rw [e] at h1
    cases h1
  | cons b bs => simp

/-- Where the law is behind Decode. -/
structure Fst (w W : World) (r : Nat) (nm : ByteArray) (ar : Int) (xs : List Ins) (cb : Nat) : Prop where
  r0 : W.heap[r]? = some (po nm ar (.slice (some ⟨cb, 0, none⟩) xs.length xs.length))
  bk : ∃ cs, W.heap[cb]? = some (.cells cs 28 (0, 0))
  co : ∀ (j : Nat) (x : Ins), xs[j]? = some x → InsAt W cb (j * 8) x
  hb : Below w.heap.size w W

theorem Fst.below {w W W' : World} {r : Nat} {nm : ByteArray} {ar : Int} {xs : List Ins} {cb : Nat} (h : Fst w W r nm ar xs cb) (hb : Below W.heap.size W W') : Fst w W' r nm ar xs cb := by
  obtain ⟨cs, hc⟩ := h.bk
  have hl := hb.block _ (lt_of hc)
  exact ⟨blk_of hb h.r0 (lt_of h.r0), ⟨cs, hl.trans hc⟩, fun j x hx => (h.co j x hx).same hl, below_on h.hb hb⟩

theorem Fst.code {w W : World} {r : Nat} {nm : ByteArray} {ar : Int} {xs : List Ins} {cb : Nat} (h : Fst w W r nm ar xs cb) : CodeAt W (.slice (some ⟨cb, 0, none⟩) xs.length xs.length) xs :=
  ⟨_, _, rfl, Nat.le_refl _, fun _ => ⟨cb, 0, rfl, fun j x hx => by rw [Nat.zero_add]; exact h.co j x hx⟩⟩

theorem fst_start {w w1 : World} {nm : ByteArray} {ar : Int} {xs : List Ins} {cb : Nat} (hb : Below w.heap.size w w1) (bk : ∃ cs, w1.heap[cb]? = some (.cells cs 28 (0, 0))) (co : ∀ (j : Nat) (x : Ins), xs[j]? = some x → InsAt w1 cb (j * 8) x) :
    Fst w (w1.alloc (po nm ar (.slice (some ⟨cb, 0, none⟩) xs.length xs.length))) w1.heap.size nm ar xs cb := by
  obtain ⟨cs, hc⟩ := bk
  have hl : ((w1.alloc (po nm ar (.slice (some ⟨cb, 0, none⟩) xs.length xs.length))).heap[cb]?) = w1.heap[cb]? := Below.heap_alloc _ _ _ (lt_of hc)
  exact ⟨heap_alloc_new w1 _, ⟨cs, hl.trans hc⟩, fun j x hx => (co j x hx).same hl, hb.alloc hb.size _⟩

set_option maxRecDepth 100000 in
set_option maxHeartbeats 4000000 in
theorem form_err (v : Value) (bs : List Int) (cut : Int) (mv : Value) (ms : List Int) (w : World) (h : Sn w v bs) (ho : Oct bs) (hm : Sn w mv ms) (hl : (bs.length : Int) ≤ 65536) (hl2 : (ms.length : Int) ≤ 65536) (E : Int) (hE : decP bs = .error E) :
    Calls Try.prog 7 #[v, .int .i64 cut, mv] w fun x w' => x = .returned (.bool true) ∧ Below w.heap.size w w' := by
  have hE0 := decP_err bs E hE
  have HD := hid (pdecode_any v bs w h.1 ho (by omega))
  rw [hE] at HD
  unfold DPost at HD
  dsimp only at HD
  obtain ⟨⟨ao, cc, rfl, -, -⟩, -⟩ := h
  obtain ⟨⟨bo, dd, rfl, -, -⟩, -⟩ := hm
  have he2 : (E == 0) = false := by simpa using hE0
  clear hE hE0 ho
  go_enter Try.func7, Try.ntmps7
  go_wp2_with (first
    | (go_at_call 17
       refine HD.out.mono ?_
       rintro e w1 ⟨hb1, rfl⟩
       have H1 := hid (hb1.alloc hb1.size (po emp 0 (.slice none 0 0)))
       clear hb1)
    | (go_at_call 13
       refine (known_any _).mono ?_
       rintro e w2 ⟨rfl, hb2⟩
       have H2 := hid (below_on H1.out hb2)
       clear hb2))
  go_ret
  exact ⟨rfl, H2.out⟩

theorem app_one {w w5 w7 : World} {ao : Option Addr} {c : Nat} {bs : List Int} {v : Value} (h5 : Below w.heap.size w w5) (ho : w7.ownsRow w5.heap.size 5 1 (.slice ao (0 + bs.length) c) (0 + bs.length) (B8 ([] ++ bs))) (hg : (w5.alloc (.cells #[] 5)).grownBy w7 v.ownBlock) (hv : ∀ k, v.ownBlock = some k → w5.heap.size ≤ k) :
    w7.ownsRow w5.heap.size 5 1 (.slice ao bs.length c) bs.length (B8 bs) ∧ Below w.heap.size w w7 ∧ w5.heap.size ≤ w7.heap.size := by
  have hb : Below w5.heap.size w5 w7 := (below1 w5 _).trans ((Below.refl _ _).grown hg (by simp) hv)
  exact ⟨by simpa using ho, below_on h5 hb, hb.size⟩

theorem app_two {w w5 w7 w8 : World} {ao ao2 : Option Addr} {c c2 : Nat} {bs ms : List Int} (h7 : w7.ownsRow w5.heap.size 5 1 (.slice ao bs.length c) bs.length (B8 bs)) (h7b : Below w.heap.size w w7) (hz : w5.heap.size ≤ w7.heap.size) (h5 : w.heap.size ≤ w5.heap.size)
    (ho : w8.ownsRow w5.heap.size 5 1 (.slice ao2 (bs.length + ms.length) c2) (bs.length + ms.length) (B8 (bs ++ ms))) (hg : w7.grownBy w8 (Value.slice ao bs.length c).ownBlock) :
    w8.ownsRow w5.heap.size 5 1 (.slice ao2 (bs.length + ms.length) c2) (bs.length + ms.length) (B8 (bs ++ ms)) ∧ Below w.heap.size w w8 := by
  have _ := hz
  exact ⟨ho, h7b.grown hg h7b.size (fun k hk => by have := (h7.lt k hk).1; omega)⟩

set_option maxRecDepth 100000 in
set_option maxHeartbeats 8000000 in
theorem form_ok (v : Value) (bs : List Int) (cut : Int) (mv : Value) (ms : List Int) (w : World) (h : Sn w v bs) (ho : Oct bs) (hm : Sn w mv ms) (hmo : Oct ms) (hl : (bs.length : Int) ≤ 65536) (hl2 : (ms.length : Int) ≤ 65536) (nm : List Int) (ar : Int) (xs : List Ins) (hD : decP bs = .ok (nm, ar, xs)) :
    Calls Try.prog 7 #[v, .int .i64 cut, mv] w fun x w' => x = .returned (.bool true) ∧ Below w.heap.size w w' := by
  obtain ⟨hT, hC⟩ := decP_ok bs nm ar xs hD
  obtain ⟨hB, hI⟩ := tkProc_bytes bs ho nm ar xs hT
  have hxl := tkProc_len bs nm ar xs hT
  have hpos := decP_pos bs nm ar xs hD
  have HDD := hid (fun v' bs' W' h' ho' hl' => pdecode_any v' bs' W' h' ho' hl')
  have HD := hid (pdecode_any v bs w h.1 ho (by omega))
  rw [hD] at HD
  unfold DPost at HD
  dsimp only at HD
  obtain ⟨E1, E2, hR⟩ : ∃ R1 R2, procChk (mkStr nm) ar xs = (R1, R2) := ⟨_, _, rfl⟩
  rw [hR] at hC
  dsimp only at hC
  subst hC
  have HC := hid (fun S W hW => pcheck_any (mkStr nm) ar S xs W hW (by omega))
  have HE := hid (fun S W hW => pencode_any (mkStr nm) ar S xs W hW (by omega) hI)
  unfold PEnc at HE
  rw [hR] at HC HE
  rw [hB] at HE
  dsimp only at HC HE
  have HCUT := hid (fun c hc => decP_cut bs ho nm ar xs hD c hc)
  have HMORE := hid (fun hne => decP_more bs ms ho hne nm ar xs hD)
  have HS := hid h
  have HM := hid hm
  have HO := hid (And.intro ho hmo)
  obtain ⟨⟨ao, cc, rfl, -, -⟩, -⟩ := h
  obtain ⟨⟨bo, dd, rfl, -, -⟩, -⟩ := hm
  clear hT hB hI hD hR ho hmo
  go_enter Try.func7, Try.ntmps7
  go_upto_region 10 with (first
    | (go_at_call 17
       refine HD.out.mono ?_
       rintro e w1 ⟨hb1, cb, rfl, hcb, hck, hco⟩
       have H1 := hid (fst_start (nm := mkStr nm) (ar := ar) hb1 hck hco)
       clear hb1 hcb hck hco)
    | (go_at_call 10
       refine (HC.out _ _ H1.out.code).mono ?_
       rintro e w2 ⟨rfl, hb2⟩
       have H2 := hid (H1.out.below hb2)
       obtain ⟨p0, p1, p2, -⟩ := vfacts H2.out.r0
       clear hb2)
    | (go_at_call 14
       refine (HE.out _ _ H2.out.code).mono ?_
       rintro e w3 (⟨h3, -⟩ | ⟨-, g3, rfl, ho3, hg3, hb3⟩)
       · exact absurd rfl h3
       have H3 := hid (And.intro (below_on H2.out.hb hb3) ho3)
       clear hb3 hg3 ho3)
    | (go_at_call 16
       refine (bytes_any _ _ bs bs _ (HS.out.1.below H3.out.1) (sl_of_owns (H3.out.2.owns (B := 0) (Nat.zero_le _) (by unfold maxLen; omega))) (by omega)).mono ?_
       rintro e w4 ⟨hd4, rfl⟩
       rw [decide_eq_true rfl]
       have H4 := hid (below_on H3.out.1 hd4.below)
       clear hd4))
  clear H1 H2 H3 HC HE HD p0 p1 p2
  have htb : -(bs.length : Int) < cut.tmod bs.length ∧ cut.tmod bs.length < bs.length := by
    have h1 : (cut.tmod bs.length).natAbs < bs.length := by
      rw [Int.natAbs_tmod]
      exact Nat.mod_lt _ hpos
    omega
  have HTB := hid htb
  have hpos' : (0 : Int) < (bs.length : Int) := by omega
  clear htb
  by_cases hneg : cut.tmod bs.length < 0
  · obtain ⟨cN, hwr, hcN⟩ : ∃ c : Nat, wrap64 (cut.tmod bs.length + bs.length) = c ∧ c < bs.length := by
      have := HTB.out
      refine ⟨(cut.tmod bs.length + bs.length).toNat, ?_, by omega⟩
      unfold wrap64
      omega
    have HWR := hid hwr
    clear hwr
    go_upto_region 13 with fail
    rw [HWR.out]
    obtain ⟨rv, hrv, hsl, -⟩ := sl_to (HS.out.1.below H4.out) cN (by omega)
    obtain ⟨gv, hgv⟩ : ∃ gv, gv = Value.slice ao bs.length cc := ⟨_, rfl⟩
    rw [← hgv] at hrv HS ⊢
    clear hgv
    obtain ⟨E, hE, hE0⟩ := HCUT.out cN hcN
    have HD2 := hid (fun W hW => HDD.out rv (bs.take cN) W hW (HO.out.1.take cN) (by rw [List.length_take]; omega))
    rw [hE] at HD2
    unfold DPost at HD2
    dsimp only at HD2
    have he2 : (E == 0) = false := by simpa using hE0
    have HSL := hid hsl
    clear hsl hE hE0
    by_cases hms : ms = []
    · subst hms
      go_wp2_with (first
        | (go_at_call 17
           refine (HD2.out _ HSL.out).mono ?_
           rintro e w5 ⟨hb5, rfl⟩
           have H5 := hid (below_on H4.out hb5)
           clear hb5)
        | (go_at_call 13
           refine (known_any _).mono ?_
           rintro e w6 ⟨rfl, hb6⟩
           have H6 := hid (below_on H5.out hb6)
           clear hb6))
      go_ret
      exact ⟨rfl, H6.out⟩
    · have hmp : (0 : Int) < (ms.length : Int) := by have := List.length_pos_iff.2 hms; omega
      have HD3 := hid (fun v' W hW => HDD.out v' (bs ++ ms) W hW (fun x hx => (List.mem_append.1 hx).elim (HO.out.1 x) (HO.out.2 x)) (by rw [List.length_append]; omega))
      rw [HMORE.out hms] at HD3
      unfold DPost at HD3
      dsimp only at HD3
      clear hms
      go_wp2_with (first
        | (go_at_call 17
           first
           | ((with_reducible show Calls _ _ _ w4 _)
              refine (HD2.out _ HSL.out).mono ?_
              rintro e w5 ⟨hb5, rfl⟩
              have H5 := hid (below_on H4.out hb5)
              clear hb5)
           | (refine (HD3.out _ _ (sl_of_owns H8.out.1)).mono ?_
              rintro e w9 ⟨hb9, rfl⟩
              have H9 := hid (below_on H8.out.2 hb9)
              clear hb9))
        | (at_builtin
           (with_reducible show wpList _ _ _ _ _ (World.alloc w5 _))
           go_loud (
           refine wpList_append_sn _ rfl _ _ rfl w5.heap.size _ 0 [] rfl ((show Own (w5.alloc (.cells #[] 5)) w5.heap.size [] from heap_alloc_new w5 _).owns (Nat.le_refl _) (by decide)) _ bs rfl ((HS.out.below H5.out).below (below1 w5 _)) (by omega) (by simp) ?_
           intro ao1 c1 w7 hown hgrow
           have H7 := hid (app_one H5.out hown hgrow (by intro k hk; simp [Value.ownBlock, Act.eval] at hk; omega))
           clear hown hgrow))
        | (at_builtin
           go_loud (
           refine wpList_append_sn _ rfl _ _ rfl w5.heap.size _ bs.length bs rfl H7.out.1 _ ms rfl (HM.out.below H7.out.2.1) (by omega) H7.out.2.2 ?_
           intro ao2 c2 w8 hown hgrow
           have H8 := hid (app_two H7.out.1 H7.out.2.1 H7.out.2.2 H5.out.size hown hgrow)
           clear hown hgrow))
        | (go_at_call 13
           refine (known_any _).mono ?_
           rintro e w10 ⟨rfl, hb10⟩
           have H10 := hid (below_on H9.out hb10)
           clear hb10))
      go_ret
      exact ⟨rfl, H10.out⟩
  · obtain ⟨cN, hwr, hcN⟩ : ∃ c : Nat, cut.tmod bs.length = c ∧ c < bs.length := by
      have := HTB.out
      exact ⟨(cut.tmod bs.length).toNat, by omega, by omega⟩
    have HWR := hid hwr
    clear hwr
    go_upto_region 13 with fail
    rw [HWR.out]
    clear hneg
    obtain ⟨rv, hrv, hsl, -⟩ := sl_to (HS.out.1.below H4.out) cN (by omega)
    obtain ⟨gv, hgv⟩ : ∃ gv, gv = Value.slice ao bs.length cc := ⟨_, rfl⟩
    rw [← hgv] at hrv HS ⊢
    clear hgv
    obtain ⟨E, hE, hE0⟩ := HCUT.out cN hcN
    have HD2 := hid (fun W hW => HDD.out rv (bs.take cN) W hW (HO.out.1.take cN) (by rw [List.length_take]; omega))
    rw [hE] at HD2
    unfold DPost at HD2
    dsimp only at HD2
    have he2 : (E == 0) = false := by simpa using hE0
    have HSL := hid hsl
    clear hsl hE hE0
    by_cases hms : ms = []
    · subst hms
      go_wp2_with (first
        | (go_at_call 17
           refine (HD2.out _ HSL.out).mono ?_
           rintro e w5 ⟨hb5, rfl⟩
           have H5 := hid (below_on H4.out hb5)
           clear hb5)
        | (go_at_call 13
           refine (known_any _).mono ?_
           rintro e w6 ⟨rfl, hb6⟩
           have H6 := hid (below_on H5.out hb6)
           clear hb6))
      go_ret
      exact ⟨rfl, H6.out⟩
    · have hmp : (0 : Int) < (ms.length : Int) := by have := List.length_pos_iff.2 hms; omega
      have HD3 := hid (fun v' W hW => HDD.out v' (bs ++ ms) W hW (fun x hx => (List.mem_append.1 hx).elim (HO.out.1 x) (HO.out.2 x)) (by rw [List.length_append]; omega))
      rw [HMORE.out hms] at HD3
      unfold DPost at HD3
      dsimp only at HD3
      clear hms
      go_wp2_with (first
        | (go_at_call 17
           first
           | ((with_reducible show Calls _ _ _ w4 _)
              refine (HD2.out _ HSL.out).mono ?_
              rintro e w5 ⟨hb5, rfl⟩
              have H5 := hid (below_on H4.out hb5)
              clear hb5)
           | (refine (HD3.out _ _ (sl_of_owns H8.out.1)).mono ?_
              rintro e w9 ⟨hb9, rfl⟩
              have H9 := hid (below_on H8.out.2 hb9)
              clear hb9))
        | (at_builtin
           (with_reducible show wpList _ _ _ _ _ (World.alloc w5 _))
           go_loud (
           refine wpList_append_sn _ rfl _ _ rfl w5.heap.size _ 0 [] rfl ((show Own (w5.alloc (.cells #[] 5)) w5.heap.size [] from heap_alloc_new w5 _).owns (Nat.le_refl _) (by decide)) _ bs rfl ((HS.out.below H5.out).below (below1 w5 _)) (by omega) (by simp) ?_
           intro ao1 c1 w7 hown hgrow
           have H7 := hid (app_one H5.out hown hgrow (by intro k hk; simp [Value.ownBlock, Act.eval] at hk; omega))
           clear hown hgrow))
        | (at_builtin
           go_loud (
           refine wpList_append_sn _ rfl _ _ rfl w5.heap.size _ bs.length bs rfl H7.out.1 _ ms rfl (HM.out.below H7.out.2.1) (by omega) H7.out.2.2 ?_
           intro ao2 c2 w8 hown hgrow
           have H8 := hid (app_two H7.out.1 H7.out.2.1 H7.out.2.2 H5.out.size hown hgrow)
           clear hown hgrow))
        | (go_at_call 13
           refine (known_any _).mono ?_
           rintro e w10 ⟨rfl, hb10⟩
           have H10 := hid (below_on H9.out hb10)
           clear hb10))
      go_ret
      exact ⟨rfl, H10.out⟩

end Go.Proofs.Ytljfmbjibjoiiaa
