import Derived.Test.YthcoigbkdbkojaaGreatK28
import Derived.Test.YthcoigbkdbkojaaGreatK12
import Derived.Test.YthcoigbkdbkojaaGreatK27
namespace Go.Proofs.YthcoigbkdbkojaaGreat
open Go.RowKit Go.MapKept
open V (hp_new hp_lt hp_below hp_alloc kl)

/-- What is written, in the order of the keys. -/
theorem dnL_mem {l : KV} {z : ByteArray × Vd} (h : z ∈ dnL (kvV l)) : z ∈ l := by
  unfold dnL at h
  obtain ⟨bs, hbs, rfl⟩ := List.mem_map.1 h
  have hk := sk_key hbs
  obtain ⟨v, h1, h2⟩ := lkpM_mem hk
  obtain ⟨x, hx, e⟩ := List.mem_map.1 h2
  injection e with e1 e2
  rw [h1]
  show ((⟨bs.toArray⟩ : ByteArray), vdOfM v) ∈ l
  rw [← e1, ← e2]
  exact hx

theorem dnL_asc {l : KV} (hn : (l.map Prod.fst).Nodup) : Asc (dnL (kvV l)) := by
  have hs : (sk (kvV l)).Pairwise (fun a b => decide (a ≤ b) = true) := by
    unfold sk
    refine List.pairwise_mergeSort ?_ ?_ _
    · intro a b c h1 h2
      rw [decide_eq_true_eq] at *
      exact List.le_trans h1 h2
    · intro a b
      rw [Bool.or_eq_true, decide_eq_true_eq, decide_eq_true_eq]
      exact List.le_total a b
  have hd : (sk (kvV l)).Nodup := by
    unfold sk
    rw [(List.mergeSort_perm _ _).nodup_iff]
    have e : (kvV l).map (fun x => x.1.data.toList) = (l.map Prod.fst).map (fun b => b.data.toList) := by
      unfold kvV
      rw [List.map_map, List.map_map]
      rfl
    rw [e]
    refine List.Pairwise.map _ ?_ hn
    intro a b h e2
    apply h
    have e3 := Array.toList_inj.1 e2
    cases a; cases b
    exact congrArg ByteArray.mk e3
  have h2 : (sk (kvV l)).Pairwise (fun a b => a < b) := by
    refine (hs.and hd).imp ?_
    rintro a b ⟨h1, h2⟩
    rw [decide_eq_true_eq] at h1
    by_cases h3 : a < b
    · exact h3
    · exact absurd (List.le_antisymm h1 (List.not_lt.1 h3)) h2
  unfold Asc dnL
  refine List.Pairwise.map _ ?_ h2
  intro a b h
  show Op.bytesLess (ByteArray.toList ⟨a.toArray⟩) (ByteArray.toList ⟨b.toArray⟩) = true
  rw [V.bl_eq, Lib.toList_data, Lib.toList_data]
  simpa using h

/-- Instructions that chapter 6 takes. -/
theorem codeChk_ok {ar : Int} {len : Nat} : ∀ {i : Nat} {xs : List Ins} {a : Int}, codeChk ar len i xs = (a, 0) → ∀ k x, xs[k]? = some x → insErr x ar ((len : Int) - 1 - (i + k : Nat)) = 0
  | _, [], _, _, k, x, h => by simp at h
  | i, y :: ys, a, hc, k, x, h => by
    unfold codeChk at hc
    by_cases e : insErr y ar ((len : Int) - 1 - i) = 0
    · rw [if_pos e] at hc
      cases k with
      | zero =>
        simp at h
        subst h
        exact e
      | succ k =>
        simp at h
        have h1 := codeChk_ok hc k x h
        rw [show i + (k + 1) = i + 1 + k by omega]
        exact h1
    · rw [if_neg e] at hc
      injection hc with _ hc
      exact absurd hc e

theorem procChk_ok {nm : ByteArray} {ar : Int} {xs : List Ins} (h : (procChk nm ar xs).2 = 0) (hi : ∀ x ∈ xs, inR x.i = true) : xs.length ≤ 64 ∧ 0 ≤ ar ∧ ar ≤ 16 ∧ InsOk ar xs := by
  unfold procChk at h
  split at h
  · split at h
    · rename_i hw
      split at h
      · rename_i hl
        have hw2 := within_of hw
        refine ⟨hl, hw2.1, hw2.2, fun k x hk => ⟨?_, hi x (List.mem_of_getElem? hk)⟩⟩
        have h1 : codeChk ar xs.length 0 xs = ((codeChk ar xs.length 0 xs).1, 0) := Prod.ext rfl h
        have h2 := codeChk_ok h1 k x hk
        rwa [Nat.zero_add] at h2
      · cases h
    · cases h
  · cases h

/-- What the instructions come to in the end. -/
def REnd (n : Nat) (R : Qr) : Prop :=
  (R.2.2 = 1 ∧ R.2.1 = 0 ∧ ∃ k, JQ n k R.1 ∧ (R.1.l.map Prod.fst).Nodup) ∨
  ((R.2.2 = 2 ∨ R.2.2 = 3 ∨ R.2.2 = 4 ∨ R.2.2 = 5 ∨ R.2.2 = 6) ∧ (∃ k : Nat, R.2.1 = k ∧ k < n) ∧ R.1.lk.length ≤ n ∧ ∀ x ∈ R.1.lk, lkOk x.1 x.2)

theorem kset_nodup {key : ByteArray} {v : Vd} : ∀ {l : KV}, (l.map Prod.fst).Nodup → ((kset key v l).map Prod.fst).Nodup
  | [], _ => by unfold kset; simp
  | x :: l, h => by
    rw [List.map_cons, List.nodup_cons] at h
    unfold kset
    by_cases e : x.1 = key
    · rw [if_pos e, List.map_cons, List.nodup_cons]
      exact ⟨by rw [← e]; exact h.1, h.2⟩
    · rw [if_neg e, List.map_cons, List.nodup_cons]
      refine ⟨fun hm => ?_, kset_nodup h.2⟩
      rcases (kset_keys key v l x.1).1 hm with h1 | h1
      · exact e h1
      · exact h.1 h1

theorem step_nodup {dig : Int → List Int} {L : KV} {al : List Vd} {pc : Int} {x : Ins} {q : Qm} (h : (q.l.map Prod.fst).Nodup) (o : Nat) (h1 : 1 ≤ o) (h2 : o ≤ 15) : ((stepQ dig L al pc x q o).1.l.map Prod.fst).Nodup := by
  have hr : ∀ (a : Int) (R : Vd × Int), (qRck q pc a R).1.l = q.l := by
    intro a R
    unfold qRck
    split <;> rfl
  have ht : ∀ (R : Vd × Int × ByteArray), (qThr q pc x R).1.l = q.l := by
    intro R
    unfold qThr
    split
    · split
      · split
        · rfl
        · split <;> rfl
      · rfl
    · rfl
  rcases (by omega : o = 1 ∨ o = 2 ∨ o = 3 ∨ o = 4 ∨ o = 5 ∨ o = 6 ∨ o = 7 ∨ o = 8 ∨ o = 9 ∨ o = 10 ∨ o = 11 ∨ o = 12 ∨ o = 13 ∨ o = 14 ∨ o = 15) with rfl | rfl | rfl | rfl | rfl | rfl | rfl | rfl | rfl | rfl | rfl | rfl | rfl | rfl | rfl
  · exact h
  · exact h
  · rw [stepQ_3]
    split
    · split <;> exact h
    · exact h
  · rw [stepQ_4]
    split
    · exact kset_nodup h
    · exact h
  · rw [stepQ_5]
    split
    · exact kset_nodup h
    · exact h
  · rw [show (stepQ dig L al pc x q 6).1.l = q.l from hr _ _]; exact h
  · rw [show (stepQ dig L al pc x q 7).1.l = q.l from hr _ _]; exact h
  · rw [show (stepQ dig L al pc x q 8).1.l = q.l from hr _ _]; exact h
  · rw [show (stepQ dig L al pc x q 9).1.l = q.l from hr _ _]; exact h
  · exact h
  · exact h
  · rw [show (stepQ dig L al pc x q 12).1.l = q.l from ht _]; exact h
  · rw [show (stepQ dig L al pc x q 13).1.l = q.l from ht _]; exact h
  · rw [stepQ_14]
    split <;> exact h
  · show ((if q.td.length = 64 then (q, pc, 5) else ({ q with td := q.td ++ [q.rg x.a] }, pc, 0) : Qr).1.l.map Prod.fst).Nodup
    split <;> exact h

theorem runQ_end {dig : Int → List Int} {L : KV} {al : List Vd} {xs : List Ins} {ar : Int} (hL : LOk L) (hal : ∀ v ∈ al, vok v) (hxs : InsOk ar xs) : ∀ (n k : Nat) (q : Qm), JQ xs.length k q → (q.l.map Prod.fst).Nodup → xs.length < n + k → REnd xs.length (runQ (sqf dig L al) xs n k q)
  | 0, k, q, hJ, _, h => by have := hJ.kl; omega
  | n + 1, k, q, hJ, hn, h => by
    unfold runQ
    cases hk : xs[k]? with
    | none => exact .inl ⟨rfl, rfl, k, hJ, hn⟩
    | some x =>
      dsimp only
      split
      · exact .inl ⟨rfl, rfl, k, hJ, hn⟩
      · rename_i h16
        obtain ⟨h3, h4⟩ := hxs k x hk
        obtain ⟨e, h5, h6⟩ := op_of h3 h16
        split
        · rename_i h0
          obtain ⟨k', e1, e2, e3, e4⟩ := jq_step (dig := dig) hL hal hxs hJ hk h16 h0
          rw [e1, Int.toNat_natCast]
          exact runQ_end hL hal hxs n (k' + 1) _ e4 (step_nodup hn _ h5 h6) (by omega)
        · rename_i h0
          have hs := sp_step (dig := dig) hL hal hxs hJ hk h16
          have hlt := (List.getElem?_eq_some_iff.1 hk).1
          refine .inr ⟨hs.st.resolve_left h0, ⟨k, hs.no h0, hlt⟩, ?_, ?_⟩
          · have h1 := hJ.lk
            rcases hs.lk with e | ⟨f, t, e, -⟩
            · rw [e]; omega
            · rw [e, List.length_append]; show q.lk.length + 1 ≤ _; omega
          · rcases hs.lk with e | ⟨f, t, e, h1, -⟩
            · rw [e]; exact fun y hy => (hJ.lo y hy).1
            · rw [e]
              intro y hy
              rcases List.mem_append.1 hy with h | h
              · exact (hJ.lo y h).1
              · rw [List.mem_singleton.1 h]; exact h1

/-- An effect as plain data: status, place, told, writes, looks. -/
structure Ef where
  st : Int
  at_ : Int
  td : List Vd
  wr : List (ByteArray × Vd)
  lk : List (ByteArray × ByteArray)

/-- What Run answers. -/
noncomputable def efR (dig : Int → List Int) (L : KV) (nm : ByteArray) (ar : Int) (xs : List Ins) (al : List Vd) : Ef :=
  open Classical in
  if (procChk nm ar xs).2 ≠ 0 then ⟨0, 0, [], [], []⟩
  else if ∃ x ∈ al, chk x.k x.i x.t ≠ 0 then ⟨0, 0, [], [], []⟩
  else if (al.length : Int) ≠ ar then ⟨8, 0, [], [], []⟩
  else ⟨(runQ (sqf dig L al) xs (xs.length + 1) 0 q0).2.2, (runQ (sqf dig L al) xs (xs.length + 1) 0 q0).2.1, qTd (runQ (sqf dig L al) xs (xs.length + 1) 0 q0), qWr (runQ (sqf dig L al) xs (xs.length + 1) 0 q0), (runQ (sqf dig L al) xs (xs.length + 1) 0 q0).1.lk⟩

abbrev EfAt (B R : Nat) (f : Ef) (v : Value) (W : World) : Prop := EffS B R f.st f.at_ f.td f.wr f.lk v W

theorem exec_all (p : Nat) (av S : Value) (nm : ByteArray) (ar : Int) (xs : List Ins) (al : List Vd) (w : World) (dig : Int → List Int) (L : KV) (hc : CodeAt w S xs) (ha : Va w av al) (hl : xs.length ≤ 1000) (hla : al.length ≤ 1000)
    (hi : ∀ x ∈ xs, inR x.i = true) (hv : ∀ x ∈ al, inR x.i = true) (hV : VL w p L) (hL : LOk L) (hd : Digs dig w) :
    Calls Tryz.prog 12 #[.iface 35 (.pointer (some ⟨p, 0, none⟩)), .agg #[.string nm, .int .i64 ar, S], av] w fun e w' => ∃ v, e = .returned v ∧ EfAt (w.heap.size + 2) (w.heap.size + 1) (efR dig L nm ar xs al) v w' ∧ Below w.heap.size w w' := by
  unfold efR
  by_cases h1 : (procChk nm ar xs).2 ≠ 0
  · rw [if_pos h1]
    refine (run12_proc _ av S nm ar xs w _ _ hc hl rfl h1).mono ?_
    rintro e w' ⟨rfl, hb⟩
    exact ⟨_, rfl, effs_nil _ _ _ _ _, hb⟩
  · rw [if_neg h1]
    have h1' : (procChk nm ar xs).2 = 0 := by simpa using h1
    have hpc : procChk nm ar xs = ((procChk nm ar xs).1, 0) := Prod.ext rfl h1'
    by_cases h2 : ∃ x ∈ al, chk x.k x.i x.t ≠ 0
    · rw [if_pos h2]
      refine (run12_args _ av S nm ar xs al w _ hc ha hl hla hpc 0 (.inl ⟨rfl, h2⟩)).mono ?_
      rintro e w' ⟨rfl, hb⟩
      exact ⟨_, rfl, effs_nil _ _ _ _ _, hb⟩
    · rw [if_neg h2]
      have h2' : ∀ x ∈ al, chk x.k x.i x.t = 0 := fun x hx => by
        by_cases e : chk x.k x.i x.t = 0
        · exact e
        · exact absurd ⟨x, hx, e⟩ h2
      by_cases h3 : (al.length : Int) ≠ ar
      · rw [if_pos h3]
        refine (run12_args _ av S nm ar xs al w _ hc ha hl hla hpc 8 (.inr ⟨rfl, h2', h3⟩)).mono ?_
        rintro e w' ⟨rfl, hb⟩
        exact ⟨_, rfl, effs_nil _ _ _ _ _, hb⟩
      · rw [if_neg h3]
        have h3' : (al.length : Int) = ar := by simpa using h3
        obtain ⟨h64, h0, h16, hins⟩ := procChk_ok h1' hi
        exact exec_any p av S nm ar xs al w _ dig L hc ha h64 (by omega) hpc (fun x hx => ⟨h2' x hx, hv x hx⟩) h3'.symm hV hL hd hins

/-- What an effect may be. -/
structure EndsOk (n : Nat) (f : Ef) : Prop where
  cls : (f.st = 1 ∧ f.at_ = 0) ∨ ((f.st = 2 ∨ f.st = 3 ∨ f.st = 4 ∨ f.st = 5 ∨ f.st = 6) ∧ (∃ k : Nat, f.at_ = k ∧ k < n) ∧ f.td = [] ∧ f.wr = []) ∨ ((f.st = 0 ∨ f.st = 8) ∧ f.at_ = 0 ∧ f.td = [] ∧ f.wr = [] ∧ f.lk = [])
  tdl : f.td.length ≤ 64
  wrl : f.wr.length ≤ 64
  lkl : f.lk.length ≤ 64
  tdv : ∀ v ∈ f.td, vok v
  wrv : ∀ x ∈ f.wr, isKeyB x.1 = true ∧ vok x.2
  wra : Asc f.wr
  lko : ∀ x ∈ f.lk, lkOk x.1 x.2

theorem ef_ends {dig : Int → List Int} {L : KV} {nm : ByteArray} {ar : Int} {xs : List Ins} {al : List Vd} (hL : LOk L) (hi : ∀ x ∈ xs, inR x.i = true) (hv : ∀ x ∈ al, inR x.i = true) : EndsOk xs.length (efR dig L nm ar xs al) := by
  have hz : ∀ st : Int, st = 0 ∨ st = 8 → EndsOk xs.length ⟨st, 0, [], [], []⟩ := fun st h =>
    ⟨.inr (.inr ⟨h, rfl, rfl, rfl, rfl⟩), Nat.zero_le _, Nat.zero_le _, Nat.zero_le _, (fun _ h => nomatch h), (fun _ h => nomatch h), List.Pairwise.nil, (fun _ h => nomatch h)⟩
  unfold efR
  by_cases h1 : (procChk nm ar xs).2 ≠ 0
  · rw [if_pos h1]; exact hz 0 (.inl rfl)
  · rw [if_neg h1]
    by_cases h2 : ∃ x ∈ al, chk x.k x.i x.t ≠ 0
    · rw [if_pos h2]; exact hz 0 (.inl rfl)
    · rw [if_neg h2]
      have h2' : ∀ x ∈ al, chk x.k x.i x.t = 0 := fun x hx => by
        by_cases e : chk x.k x.i x.t = 0
        · exact e
        · exact absurd ⟨x, hx, e⟩ h2
      by_cases h3 : (al.length : Int) ≠ ar
      · rw [if_pos h3]; exact hz 8 (.inr rfl)
      · rw [if_neg h3]
        have h1' : (procChk nm ar xs).2 = 0 := by simpa using h1
        obtain ⟨h64, -, -, hins⟩ := procChk_ok h1' hi
        have hr := runQ_end (dig := dig) hL (fun x hx => ⟨h2' x hx, hv x hx⟩) hins (xs.length + 1) 0 q0 (jq0 _) List.nodup_nil (by omega)
        generalize runQ (sqf dig L al) xs (xs.length + 1) 0 q0 = R at hr
        obtain ⟨q, pc, st⟩ := R
        rcases hr with ⟨e1, e2, k, hJ, hn⟩ | ⟨e1, ⟨k, e2, e3⟩, e4, e5⟩
        · dsimp only at e1 e2 hJ hn
          subst e1 e2
          have g1 := hJ.kl
          have g2 := hJ.lk
          have g3 := hJ.ll
          have hw : qWr (q, 0, 1) = dnL (kvV q.l) := if_pos rfl
          have ht : qTd (q, 0, 1) = q.td := if_pos rfl
          refine ⟨.inl ⟨rfl, rfl⟩, ?_, ?_, ?_, ?_, ?_, ?_, fun x hx => (hJ.lo x hx).1⟩
          · dsimp only; rw [ht]; exact hJ.td
          · dsimp only; rw [hw, dnL_len, show (kvV q.l).length = q.l.length by simp [kvV]]; omega
          · dsimp only; omega
          · dsimp only; rw [ht]; exact hJ.ok.td
          · dsimp only; rw [hw]; exact fun x hx => ⟨hJ.ok.kk x (dnL_mem hx), hJ.ok.lv x (dnL_mem hx)⟩
          · dsimp only; rw [hw]; exact dnL_asc hn
        · dsimp only at e1 e2 e4 e5
          have hs1 : ¬ st = 1 := by omega
          have hw : qWr (q, pc, st) = [] := if_neg hs1
          have ht : qTd (q, pc, st) = [] := if_neg hs1
          refine ⟨.inr (.inl ⟨e1, ⟨k, e2, e3⟩, ht, hw⟩), ?_, ?_, ?_, ?_, ?_, ?_, e5⟩
          · dsimp only; rw [ht]; exact Nat.zero_le _
          · dsimp only; rw [hw]; exact Nat.zero_le _
          · dsimp only; omega
          · dsimp only; rw [ht]; exact (fun _ h => nomatch h)
          · dsimp only; rw [hw]; exact (fun _ h => nomatch h)
          · dsimp only; rw [hw]; exact List.Pairwise.nil

end Go.Proofs.YthcoigbkdbkojaaGreat

namespace Go.Proofs.YthcoigbkdbkojaaGreat
open Go.RowKit Go.MapKept
open V (hp_new hp_lt hp_below hp_alloc)

/-- What comes behind a world with one block more. -/
def Inn (w4 : World) (o : Obj) (W : World) : Prop := Below (w4.heap.size + 1) (w4.alloc o) W
theorem Inn.sz {w4 W : World} {o : Obj} (h : Inn w4 o W) : w4.heap.size + 1 ≤ W.heap.size := by
  have h1 := Below.size h
  simpa using h1
theorem Inn.al {w4 W : World} {o : Obj} (h : Inn w4 o W) (o' : Obj) : Inn w4 o (W.alloc o') := Below.alloc h h.sz o'
theorem Inn.go {w4 W W' : World} {o : Obj} (h : Inn w4 o W) (hb : Below W.heap.size W W') : Inn w4 o W' := Below.trans h (hb.mono h.sz)
theorem Inn.sets {w4 W : World} {o : Obj} (h : Inn w4 o W) {r : Nat} (hr : w4.heap.size + 1 ≤ r) (x y z u v : Value) : Inn w4 o (((((W.setCell ⟨r, 0, none⟩ x).setCell ⟨r, 1, none⟩ y).setCell ⟨r, 2, none⟩ z).setCell ⟨r, 3, none⟩ u).setCell ⟨r, 4, none⟩ v) :=
  Below.setCell (p := ⟨r, 4, none⟩) (Below.setCell (p := ⟨r, 3, none⟩) (Below.setCell (p := ⟨r, 2, none⟩) (Below.setCell (p := ⟨r, 1, none⟩) (Below.setCell (p := ⟨r, 0, none⟩) h hr x) hr y) hr z) hr u) hr v

/-- A box for an effect. -/
def Box (W w4 : World) (r : Nat) : Prop := W.heap[r]? = some (.cells #[.int .i64 0, .int .i64 0, .slice none 0 0, .slice none 0 0, .slice none 0 0] 43 (0, 0)) ∧ r < W.heap.size ∧ w4.heap.size + 1 ≤ r
theorem Box.go {W W' w4 : World} {r : Nat} (h : Box W w4 r) (hb : Below W.heap.size W W') : Box W' w4 r := ⟨blk_of hb h.1 h.2.1, Nat.lt_of_lt_of_le h.2.1 hb.size, h.2.2⟩
theorem Box.nw {w4 P : World} {o : Obj} (h : Inn w4 o P) : Box (P.alloc (.cells #[.int .i64 0, .int .i64 0, .slice none 0 0, .slice none 0 0, .slice none 0 0] 43)) w4 P.heap.size := ⟨hp_new P _, by simp, h.sz⟩
theorem Box.mk2 {w4 P W : World} {o : Obj} (h : Inn w4 o P) (hb : Below (P.alloc (.cells #[.int .i64 0, .int .i64 0, .slice none 0 0, .slice none 0 0, .slice none 0 0] 43)).heap.size (P.alloc (.cells #[.int .i64 0, .int .i64 0, .slice none 0 0, .slice none 0 0, .slice none 0 0] 43)) W) : Box W w4 P.heap.size := (Box.nw h).go hb
theorem Box.mk1 {w4 W : World} {o : Obj} (hb : Below ((w4.alloc o).alloc (.cells #[.int .i64 0, .int .i64 0, .slice none 0 0, .slice none 0 0, .slice none 0 0] 43)).drew.heap.size ((w4.alloc o).alloc (.cells #[.int .i64 0, .int .i64 0, .slice none 0 0, .slice none 0 0, .slice none 0 0] 43)).drew W) : Box W w4 (w4.heap.size + 1) := by
  have h0 : Inn w4 o (w4.alloc o) := Below.refl _ _
  have h1 := ((Box.nw h0).go ((Below.refl _ _).drew)).go hb
  rwa [show (w4.alloc o).heap.size = w4.heap.size + 1 by simp] at h1
theorem cut43 {A : Type} {F : A → World → Prop} {a : A} {w9 : World} {r : Nat} {x y z u v : Value} (hx : w9.heap[r]? = some (.cells #[.int .i64 0, .int .i64 0, .slice none 0 0, .slice none 0 0, .slice none 0 0] 43 (0, 0))) (k : ∀ W, W.heap[r]? = some (.cells #[x, y, z, u, v] 43 (0, 0)) → Kept (fun q => q = r) w9 W → F a W) : F a (((((w9.setCell ⟨r, 0, none⟩ x).setCell ⟨r, 1, none⟩ y).setCell ⟨r, 2, none⟩ z).setCell ⟨r, 3, none⟩ u).setCell ⟨r, 4, none⟩ v) :=
  k _ (set5 hx _ _ _ _ _) ((((((Kept.refl (fun q => q = r) w9).setCell (p := ⟨r, 0, none⟩) (fun _ => rfl) _).setCell (p := ⟨r, 1, none⟩) (fun _ => rfl) _).setCell (p := ⟨r, 2, none⟩) (fun _ => rfl) _).setCell (p := ⟨r, 3, none⟩) (fun _ => rfl) _).setCell (p := ⟨r, 4, none⟩) (fun _ => rfl) _)

end Go.Proofs.YthcoigbkdbkojaaGreat

namespace Go.Proofs.YthcoigbkdbkojaaGreat
open Go.RowKit Go.MapKept
open V (hp_new hp_lt hp_below hp_alloc)

/-- A register has another value. -/
def Mc.reg (c : Mc) (r : Int) (v : Vd) : Mc := { c with rg := fun q => if q = r then v else c.rg q }

section
variable {ws : World} {B mb M : Nat} {pc : Int} {x : Ins} {c : Mc}

theorem g_arg (ho : x.op = 2) (l : List Vd) (v : Vd) (ha : ∀ W, Below B ws W → Va W c.av l) (h0 : 0 ≤ x.a) (h1 : x.a < 16) (hn : 0 ≤ x.n) (hv : l[x.n.toNat]? = some v) : Goes1 ws B mb M pc x c (c.reg x.a v) :=
  ⟨2, ho, by omega, by omega, fun W tv lv hx hb => (arg_any x v l hx (ha W hb) h0 h1 hn hv).mono (fun _ _ h => ⟨h.1, ⟨tv, lv, h.2.1⟩, h.2.2⟩)⟩

theorem g_get (ho : x.op = 3) (key : ByteArray) (p : Nat) (g : ByteArray → Option V.Pd) (n B0 : Nat) (v : Vd) (a0 : 0 ≤ x.a) (a1 : x.a < 16) (b0 : 0 ≤ x.b) (b1 : x.b < 16) (hr : c.rg x.b = ⟨2, 0, key⟩) (hi : isKeyB key = true) (hl : c.lk.length ≤ 1000) (hv : c.vw = .iface 35 (.pointer (some ⟨p, 0, none⟩))) (hp : ∀ W, Below B ws W → V.PV W p g false n B0) (hn : key ∉ c.kv.map Prod.fst) (hg : g key = some (pdOf v)) :
    Goes1 ws B mb M pc x c { c.reg x.a v with lk := c.lk ++ [(key, key)] } :=
  ⟨3, ho, by omega, by omega, fun W tv lv hx hb => (get_m x key p g n B0 (pdOf v) hx a0 a1 b0 b1 hr (by unfold isKeyB at hi; have := of_decide_eq_true hi; omega) hi hl hv (fun W' hb' => hp W' (hb.trans hb')) hn hg).mono (fun _ _ h => by obtain ⟨v', h1, h2, h3⟩ := h; exact ⟨h1, ⟨tv, v', h2⟩, h3⟩)⟩

theorem g_tell (ho : x.op = 15) (a0 : 0 ≤ x.a) (a1 : x.a < 16) (hl : c.td.length < 64) (hz : (c.rg x.a).t.size ≤ 281474976710656) : Goes1 ws B mb M pc x c { c with td := c.td ++ [c.rg x.a] } :=
  ⟨15, ho, by omega, by omega, fun W tv lv hx _ => (tell_m x hx a0 a1 hl hz).mono (fun _ _ h => by obtain ⟨v', h1, h2, h3⟩ := h; exact ⟨h1, ⟨v', lv, h2⟩, h3⟩)⟩

theorem g_put (ho : x.op = 4) (key : ByteArray) (a0 : 0 ≤ x.a) (a1 : x.a < 16) (b0 : 0 ≤ x.b) (b1 : x.b < 16) (hr : c.rg x.a = ⟨2, 0, key⟩) (hi : isKeyB key = true) (hn : key ∉ c.kv.map Prod.fst) : Goes1 ws B mb M pc x c { c with kv := c.kv ++ [(key, (c.rg x.b).val)] } :=
  ⟨4, ho, by omega, by omega, fun W tv lv hx _ => (put_m x key hx a0 a1 b0 b1 hr (by unfold isKeyB at hi; have := of_decide_eq_true hi; omega) hi hn).mono (fun _ _ h => ⟨h.1, ⟨tv, lv, h.2.1⟩, h.2.2⟩)⟩

end

/-- An instruction's cells. -/
def ics (x : Ins) : List Value := [.int .i64 x.op, .int .i64 x.a, .int .i64 x.b, .int .i64 x.c, .int .i64 x.n, .int .i64 x.k, .int .i64 x.i, .string x.t]

theorem code_lit {w : World} {b : Nat} {t : TypeId} {cs : Array Value} {xs : List Ins} (h : w.heap[b]? = some (.cells cs t (0, 0))) (hc : cs.toList = xs.flatMap ics) : CodeAt w (.slice (some ⟨b, 0, none⟩) xs.length xs.length) xs := by
  refine ⟨_, _, rfl, Nat.le_refl _, fun _ => ⟨b, 0, rfl, fun j x hx => ?_⟩⟩
  have key : ∀ c u, c < 8 → (ics x)[c]? = some u → w.cell? ⟨b, 0 + j * 8 + c, none⟩ = some u := fun c u h8 hu => by
    rw [cell_of_row _ _ _ _ _ _ h, Nat.zero_add, ← Array.getElem?_toList, hc, flat_get ics 8 (fun _ => rfl) _ _ _ h8, hx]
    exact hu
  exact ⟨key 0 _ (by omega) rfl, key 1 _ (by omega) rfl, key 2 _ (by omega) rfl, key 3 _ (by omega) rfl, key 4 _ (by omega) rfl, key 5 _ (by omega) rfl, key 6 _ (by omega) rfl, key 7 _ (by omega) rfl⟩

theorem va_lit {w : World} {b : Nat} {t : TypeId} {cs : Array Value} {l : List Vd} (h : w.heap[b]? = some (.cells cs t (0, 0))) (hc : cs.toList = l.flatMap vcs) : Va w (.slice (some ⟨b, 0, none⟩) l.length l.length) l := by
  refine ⟨_, _, rfl, Nat.le_refl _, fun _ => ⟨b, 0, rfl, fun j x hx => ?_⟩⟩
  have key : ∀ c u, c < 3 → (vcs x)[c]? = some u → w.cell? ⟨b, 0 + j * 3 + c, none⟩ = some u := fun c u h8 hu => by
    rw [cell_of_row _ _ _ _ _ _ h, Nat.zero_add, ← Array.getElem?_toList, hc, flat_get vcs 3 (fun _ => rfl) _ _ _ h8, hx]
    exact hu
  exact ⟨key 0 _ (by omega) rfl, key 1 _ (by omega) rfl, key 2 _ (by omega) rfl⟩

/-- The letter a. -/
abbrev aK : ByteArray := ⟨#[97]⟩
/-- known's procedure. -/
abbrev xsK : List Ins := [⟨2, 0, 0, 0, 0, 0, 0, emp⟩, ⟨3, 1, 0, 0, 0, 0, 0, emp⟩, ⟨15, 1, 0, 0, 0, 0, 0, emp⟩, ⟨4, 0, 0, 0, 0, 0, 0, emp⟩]
/-- Its states. -/
def stK (vw av : Value) : Nat → Mc
  | 0 => mc0 vw av
  | 1 => (mc0 vw av).reg 0 ⟨2, 0, aK⟩
  | 2 => { ((mc0 vw av).reg 0 ⟨2, 0, aK⟩).reg 1 ⟨1, 1, emp⟩ with lk := [(aK, aK)] }
  | 3 => { ((mc0 vw av).reg 0 ⟨2, 0, aK⟩).reg 1 ⟨1, 1, emp⟩ with lk := [(aK, aK)], td := [⟨1, 1, emp⟩] }
  | _ => { ((mc0 vw av).reg 0 ⟨2, 0, aK⟩).reg 1 ⟨1, 1, emp⟩ with lk := [(aK, aK)], td := [⟨1, 1, emp⟩], kv := [(aK, vl 2 0 aK)] }

theorem chkK : procChk ⟨#[112]⟩ 1 xsK = (0, 0) := by decide +kernel

theorem goesK {w : World} {p B0 n : Nat} {av : Value} (hpv : V.PV w p (stG [(aK, ⟨1, 1, emp⟩)]) false n B0) (ha : Va w av [⟨2, 0, aK⟩]) (ws : World) (mb M : Nat) (hb : Below w.heap.size w ws) (k : Nat) (x : Ins) (hx : xsK[k]? = some x) :
    Goes1 ws ws.heap.size mb M k x (stK (.iface 35 (.pointer (some ⟨p, 0, none⟩))) av k) (stK (.iface 35 (.pointer (some ⟨p, 0, none⟩))) av (k + 1)) := by
  match k, hx with
  | 0, hx =>
    injection hx with hx
    subst hx
    exact g_arg rfl [⟨2, 0, aK⟩] ⟨2, 0, aK⟩ (fun W hW => (ha.below hb).below hW) (by decide) (by decide) (by decide) rfl
  | 1, hx =>
    injection hx with hx
    subst hx
    exact g_get rfl aK p _ n B0 ⟨1, 1, emp⟩ (by decide) (by decide) (by decide) (by decide) rfl (by decide +kernel) (by simp [stK, mc0, Mc.reg]) rfl (fun W hW => (hpv.below hb).below hW) (by simp [stK, mc0, Mc.reg]) (by simp [stG, V.updG, pdOf])
  | 2, hx =>
    injection hx with hx
    subst hx
    exact g_tell rfl (by decide) (by decide) (by simp [stK, mc0, Mc.reg]) (by show emp.size ≤ _; decide +kernel)
  | 3, hx =>
    injection hx with hx
    subst hx
    exact g_put rfl aK (by decide) (by decide) (by decide) (by decide) rfl (by decide +kernel) (by simp [stK, mc0, Mc.reg])
  | k + 4, hx => simp at hx

end Go.Proofs.YthcoigbkdbkojaaGreat

namespace Go.Proofs.YthcoigbkdbkojaaGreat
open Go.RowKit Go.MapKept
open V (hp_new hp_lt hp_below hp_alloc)

theorem dnL_one (key : ByteArray) (d : Vd) : dnL [(key, d.val)] = [(key, d)] := by
  have h1 : sk [(key, d.val)] = [key.data.toList] := by simp [sk]
  have h2 : (⟨key.data.toList.toArray⟩ : ByteArray) = key := by simp
  have h3 : lkpM key [(key, d.val)] = some d.val := by unfold lkpM; simp [List.lookup]
  unfold dnL
  rw [h1, List.map_cons, List.map_nil, h2, h3]
  rfl

/-- The first element of a row, cell by cell. -/
theorem Rf.first {w : World} {m : Nat} {v : Value} {n : Nat} {cs : List Value} (h : Rf w m v n cs) (h0 : 0 < n) (hm : 0 < m) : ∃ b off cap, v = .slice (some ⟨b, off, none⟩) n cap ∧ b < w.heap.size ∧ ∀ j u, cs[j]? = some u → w.cell? ⟨b, off + j, none⟩ = some u := by
  obtain ⟨b, off, cap, e, -, -, hc⟩ := h.lits h0 hm
  have hl := h.1
  have hpos : 0 < cs.length := by rw [hl]; exact Nat.mul_pos h0 hm
  exact ⟨b, off, cap, e, World.block_lt_of_cell? _ _ (hc 0 cs[0] (by simp [hpos])), hc⟩

/-- What known's call leaves. -/
theorem effK {B R : Nat} {vw av v : Value} {W : World} (h : Eff B R (stK vw av 4) v W) : ∃ b1 o1 k1 b2 o2 k2 b3 o3 k3, v = .agg #[.int .i64 1, .int .i64 0, .slice (some ⟨b1, o1, none⟩) 1 k1, .slice (some ⟨b2, o2, none⟩) 1 k2, .slice (some ⟨b3, o3, none⟩) 1 k3] ∧
    (b1 < W.heap.size ∧ b2 < W.heap.size ∧ b3 < W.heap.size) ∧ W.cell? ⟨b1, o1 + 1, none⟩ = some (.int .i64 1) ∧ W.cell? ⟨b2, o2, none⟩ = some (.string aK) ∧ W.cell? ⟨b2, o2 + 1 + 2, none⟩ = some (.string aK) ∧ W.cell? ⟨b3, o3, none⟩ = some (.string aK) ∧ W.cell? ⟨b3, o3 + 1, none⟩ = some (.string aK) := by
  obtain ⟨t1, k1, t2, k2, t3, k3, e, h1, h2, h3, -⟩ := h.ex
  obtain ⟨b1, o1, c1, e1, l1, q1⟩ := (rf_of_owns h1 (vcs_one _)).first (by show 0 < 1; decide) (by omega)
  obtain ⟨b2, o2, c2, e2, l2, q2⟩ := (rf_of_owns h2 (ecs_one _)).first (by show 0 < 1; decide) (by omega)
  obtain ⟨b3, o3, c3, e3, l3, q3⟩ := (rf_of_owns h3 (lcs_one _)).first (by show 0 < 1; decide) (by omega)
  have hd : dnL (stK vw av 4).kv = [(aK, ⟨2, 0, aK⟩)] := dnL_one aK ⟨2, 0, aK⟩
  rw [hd] at q2
  refine ⟨b1, o1, c1, b2, o2, c2, b3, o3, c3, ?_, ⟨l1, l2, l3⟩, q1 1 _ rfl, q2 0 _ rfl, q2 3 _ rfl, q3 0 _ rfl, q3 1 _ rfl⟩
  rw [e, e1, e2, e3]
  rfl

/-- The world at known's call. -/
abbrev wK (w1 : World) : World := ((w1.alloc (.cells #[.int .i64 2, .int .i64 0, .int .i64 0, .int .i64 0, .int .i64 0, .int .i64 0, .int .i64 0, .string emp, .int .i64 3, .int .i64 1, .int .i64 0, .int .i64 0, .int .i64 0, .int .i64 0, .int .i64 0, .string emp, .int .i64 15, .int .i64 1, .int .i64 0, .int .i64 0, .int .i64 0, .int .i64 0, .int .i64 0, .string emp, .int .i64 4, .int .i64 0, .int .i64 0, .int .i64 0, .int .i64 0, .int .i64 0, .int .i64 0, .string emp] 30)).alloc (.cells #[.string ⟨#[112]⟩, .int .i64 1, .slice (some ⟨w1.heap.size, 0, none⟩) 4 4] 25)).alloc (.cells #[.int .i64 2, .int .i64 0, .string aK] 28)

theorem runK {w1 : World} {p n B0 : Nat} (hpv : V.PV w1 p (stG [(aK, ⟨1, 1, emp⟩)]) false n B0) :
    Calls Tryz.prog 12 #[.iface 35 (.pointer (some ⟨p, 0, none⟩)), .agg #[.string ⟨#[112]⟩, .int .i64 1, .slice (some ⟨w1.heap.size, 0, none⟩) 4 4], .slice (some ⟨w1.heap.size + 1 + 1, 0, none⟩) 1 1] (wK w1) fun e w' => ∃ b1 o1 k1 b2 o2 k2 b3 o3 k3, e = .returned (.agg #[.int .i64 1, .int .i64 0, .slice (some ⟨b1, o1, none⟩) 1 k1, .slice (some ⟨b2, o2, none⟩) 1 k2, .slice (some ⟨b3, o3, none⟩) 1 k3]) ∧
      ((b1 < w'.heap.size ∧ b2 < w'.heap.size ∧ b3 < w'.heap.size) ∧ w'.cell? ⟨b1, o1 + 1, none⟩ = some (.int .i64 1) ∧ w'.cell? ⟨b2, o2, none⟩ = some (.string aK) ∧ w'.cell? ⟨b2, o2 + 1 + 2, none⟩ = some (.string aK) ∧ w'.cell? ⟨b3, o3, none⟩ = some (.string aK) ∧ w'.cell? ⟨b3, o3 + 1, none⟩ = some (.string aK)) ∧ Below w1.heap.size w1 w' := by
  obtain ⟨hA, -, hC, hb⟩ := three w1 (.cells #[.int .i64 2, .int .i64 0, .int .i64 0, .int .i64 0, .int .i64 0, .int .i64 0, .int .i64 0, .string emp, .int .i64 3, .int .i64 1, .int .i64 0, .int .i64 0, .int .i64 0, .int .i64 0, .int .i64 0, .string emp, .int .i64 15, .int .i64 1, .int .i64 0, .int .i64 0, .int .i64 0, .int .i64 0, .int .i64 0, .string emp, .int .i64 4, .int .i64 0, .int .i64 0, .int .i64 0, .int .i64 0, .int .i64 0, .int .i64 0, .string emp] 30) (.cells #[.string ⟨#[112]⟩, .int .i64 1, .slice (some ⟨w1.heap.size, 0, none⟩) 4 4] 25) (.cells #[.int .i64 2, .int .i64 0, .string aK] 28)
  have hc : CodeAt (wK w1) (.slice (some ⟨w1.heap.size, 0, none⟩) 4 4) xsK := code_lit (xs := xsK) hA rfl
  have ha : Va (wK w1) (.slice (some ⟨w1.heap.size + 1 + 1, 0, none⟩) 1 1) [⟨2, 0, aK⟩] := va_lit (l := [⟨2, 0, aK⟩]) hC rfl
  refine (exec_ok 35 p _ _ ⟨#[112]⟩ 1 xsK [⟨2, 0, aK⟩] (wK w1) 0 hc ha (by decide) (by decide) chkK (by intro x hx; simp at hx; rw [hx]; decide +kernel) rfl (stK (.iface 35 (.pointer (some ⟨p, 0, none⟩))) (.slice (some ⟨w1.heap.size + 1 + 1, 0, none⟩) 1 1)) rfl (goesK (hpv.below hb) ha) (by show 1 ≤ 1000; decide) ?_ ?_).mono ?_
  · intro x hx
    have : x = (aK, vl 2 0 aK) := by simpa [stK] using hx
    rw [this]
    decide +kernel
  · intro x hx
    have : x = (aK, vl 2 0 aK) := by simpa [stK] using hx
    rw [this]
    exact ⟨⟨2, 0, aK⟩, rfl, by decide +kernel⟩
  · rintro e w' ⟨v, rfl, hE, hb2⟩
    obtain ⟨b1, o1, k1, b2, o2, k2, b3, o3, k3, rfl, h⟩ := effK hE
    exact ⟨b1, o1, k1, b2, o2, k2, b3, o3, k3, rfl, h, hb.trans (hb2.mono hb.size)⟩

set_option maxRecDepth 100000 in
set_option maxHeartbeats 8000000 in
theorem known_any (w : World) : Calls Tryz.prog 17 #[] w fun e w' => e = .returned (.bool true) ∧ Below w.heap.size w w' := by
  have HS := hid (store_any (.slice (some ⟨w.heap.size, 0, none⟩) 1 1) none 0 0 [(aK, ⟨1, 1, emp⟩)] (w.alloc (.cells (eca (aK, ⟨1, 1, emp⟩)) 54)) (rf_e w (aK, ⟨1, 1, emp⟩)) (by simp) (by intro x hx; simp at hx; rw [hx]; decide +kernel))
  go_enter Tryz.func17, Tryz.ntmps17
  go_wp2_with (first
    | (go_at_call 10
       refine HS.out.mono ?_
       rintro e w1 ⟨p, rfl, hpv, hb1⟩
       have HR := hid (runK hpv)
       have H1 := hid (below_on (below1 w _) hb1)
       clear hpv hb1)
    | (go_at_call 12
       refine HR.out.mono ?_
       rintro e w2 ⟨b1, o1, k1, b2, o2, k2, b3, o3, k3, rfl, ⟨⟨l1, l2, l3⟩, c1, c2, c3, c4, c5⟩, hb2⟩
       have H2 := hid (below_on H1.out hb2)
       clear hb2))
  go_ret
  exact ⟨rfl, H2.out.alloc H2.out.size _⟩

end Go.Proofs.YthcoigbkdbkojaaGreat

namespace Go.Proofs.YthcoigbkdbkojaaGreat
open Go.RowKit Go.MapKept
open V (hp_new hp_lt hp_below hp_alloc kl)

/-- An effect in the heap: its five cells in a block, its lists. -/
structure EfB (W : World) (r : Nat) (st at_ : Int) (td : List Vd) (wl : List (ByteArray × Vd)) (lk : List (ByteArray × ByteArray)) (t1 t2 t3 : Option Addr) (k1 k2 k3 : Nat) : Prop where
  bx : W.heap[r]? = some (.cells #[.int .i64 st, .int .i64 at_, .slice t1 td.length k1, .slice t2 wl.length k2, .slice t3 lk.length k3] 43 (0, 0))
  o1 : W.ownsRow 0 28 3 (.slice t1 td.length k1) td.length (td.flatMap vcs)
  o2 : W.ownsRow 0 54 4 (.slice t2 wl.length k2) wl.length (wl.flatMap ecs)
  o3 : W.ownsRow 0 61 2 (.slice t3 lk.length k3) lk.length (lk.flatMap lcs)

section
variable {W W' : World} {r : Nat} {st at_ : Int} {td : List Vd} {wl : List (ByteArray × Vd)} {lk : List (ByteArray × ByteArray)} {t1 t2 t3 : Option Addr} {k1 k2 k3 : Nat}

theorem EfB.below (h : EfB W r st at_ td wl lk t1 t2 t3 k1 k2 k3) (hb : Below W.heap.size W W') : EfB W' r st at_ td wl lk t1 t2 t3 k1 k2 k3 :=
  ⟨blk_of hb h.bx (hp_lt h.bx), ownsRow_kept h.o1 (Kept.ofBelow hb) (fun _ _ e => e), ownsRow_kept h.o2 (Kept.ofBelow hb) (fun _ _ e => e), ownsRow_kept h.o3 (Kept.ofBelow hb) (fun _ _ e => e)⟩

theorem EfB.writes (h : EfB W r st at_ td wl lk t1 t2 t3 k1 k2 k3) (k : Nat) (hk : k < wl.length) : ∃ b off, t2 = some ⟨b, off, none⟩ ∧ wl.length ≤ k2 ∧ W.cell? ⟨b, off + k * 4, none⟩ = some (.string wl[k].1) ∧ W.cell? ⟨b, off + k * 4 + 1, none⟩ = some (.int .i64 wl[k].2.k) ∧ W.cell? ⟨b, off + k * 4 + 1 + 1, none⟩ = some (.int .i64 wl[k].2.i) ∧ W.cell? ⟨b, off + k * 4 + 1 + 2, none⟩ = some (.string wl[k].2.t) := by
  obtain ⟨b, off, cap, e, h1, -, hc⟩ := Rf.elem (f := ecs) (fun _ => rfl) (by omega) (rf_of_owns h.o2 (ecs_one _)) k hk
  injection e with e1 _ e3
  subst e1 e3
  exact ⟨b, off, rfl, h1, hc 0 _ rfl, hc 1 _ rfl, hc 2 _ rfl, hc 3 _ rfl⟩

theorem EfB.looks (h : EfB W r st at_ td wl lk t1 t2 t3 k1 k2 k3) (k : Nat) (hk : k < lk.length) : ∃ b off, t3 = some ⟨b, off, none⟩ ∧ lk.length ≤ k3 ∧ W.cell? ⟨b, off + k * 2, none⟩ = some (.string lk[k].1) ∧ W.cell? ⟨b, off + k * 2 + 1, none⟩ = some (.string lk[k].2) := by
  obtain ⟨b, off, cap, e, h1, -, hc⟩ := Rf.elem (f := lcs) (fun _ => rfl) (by omega) (rf_of_owns h.o3 (lcs_one _)) k hk
  injection e with e1 _ e3
  subst e1 e3
  exact ⟨b, off, rfl, h1, hc 0 _ rfl, hc 1 _ rfl⟩

theorem EfB.told (h : EfB W r st at_ td wl lk t1 t2 t3 k1 k2 k3) (k : Nat) (hk : k < td.length) : ∃ b off, t1 = some ⟨b, off, none⟩ ∧ td.length ≤ k1 ∧ W.cell? ⟨b, off + k * 3, none⟩ = some (.int .i64 td[k].k) ∧ W.cell? ⟨b, off + k * 3 + 1, none⟩ = some (.int .i64 td[k].i) ∧ W.cell? ⟨b, off + k * 3 + 2, none⟩ = some (.string td[k].t) := by
  obtain ⟨b, off, cap, e, h1, -, hc⟩ := Rf.elem (f := vcs) (fun _ => rfl) (by omega) (rf_of_owns h.o1 (vcs_one _)) k hk
  injection e with e1 _ e3
  subst e1 e3
  exact ⟨b, off, rfl, h1, hc 0 _ rfl, hc 1 _ rfl, hc 2 _ rfl⟩
end

/-- What Run leaves, its lists free. -/
structure EfW (w' : World) (td : List Vd) (wl : List (ByteArray × Vd)) (lk : List (ByteArray × ByteArray)) (t1 t2 t3 : Option Addr) (k1 k2 k3 : Nat) : Prop where
  o1 : w'.ownsRow 0 28 3 (.slice t1 td.length k1) td.length (td.flatMap vcs)
  o2 : w'.ownsRow 0 54 4 (.slice t2 wl.length k2) wl.length (wl.flatMap ecs)
  o3 : w'.ownsRow 0 61 2 (.slice t3 lk.length k3) lk.length (lk.flatMap lcs)

/-- While the law looks at it. -/
structure LI (W : World) (r : Nat) (st at_ : Int) (td : List Vd) (wl : List (ByteArray × Vd)) (lk : List (ByteArray × ByteArray)) (t1 t2 t3 : Option Addr) (k1 k2 k3 : Nat) (wx : World) : Prop where
  bl : Below W.heap.size W wx
  o : wx.heap[W.heap.size]? = some (.cells #[.int .i64 st, .int .i64 at_, .slice t1 td.length k1] 40 (0, 0))
  ef : EfB wx r st at_ td wl lk t1 t2 t3 k1 k2 k3

theorem LI.go {W wx wy : World} {r : Nat} {st at_ : Int} {td : List Vd} {wl : List (ByteArray × Vd)} {lk : List (ByteArray × ByteArray)} {t1 t2 t3 : Option Addr} {k1 k2 k3 : Nat} (h : LI W r st at_ td wl lk t1 t2 t3 k1 k2 k3 wx) (hb : Below wx.heap.size wx wy) : LI W r st at_ td wl lk t1 t2 t3 k1 k2 k3 wy :=
  ⟨below_on h.bl hb, blk_of hb h.o (hp_lt h.o), h.ef.below hb⟩

section
variable {w9 W : World} {r : Nat} {st at_ : Int} {td : List Vd} {wl : List (ByteArray × Vd)} {lk : List (ByteArray × ByteArray)} {t1 t2 t3 : Option Addr} {k1 k2 k3 : Nat}
theorem EfW.into (h : EfW w9 td wl lk t1 t2 t3 k1 k2 k3) {cs : Array Value} (h0 : w9.heap[r]? = some (.cells cs 43 (0, 0))) (hx : W.heap[r]? = some (.cells #[.int .i64 st, .int .i64 at_, .slice t1 td.length k1, .slice t2 wl.length k2, .slice t3 lk.length k3] 43 (0, 0))) (hk : Kept (fun q => q = r) w9 W) : EfB W r st at_ td wl lk t1 t2 t3 k1 k2 k3 :=
  ⟨hx, ownsRow_kept h.o1 hk (fun q hq e => owns_blk h.o1 (k := r) (by rw [← e]; exact hq) h0 (fun cs e => by injection e with _ e; cases e)), ownsRow_kept h.o2 hk (fun q hq e => owns_blk h.o2 (k := r) (by rw [← e]; exact hq) h0 (fun cs e => by injection e with _ e; cases e)), ownsRow_kept h.o3 hk (fun q hq e => owns_blk h.o3 (k := r) (by rw [← e]; exact hq) h0 (fun cs e => by injection e with _ e; cases e))⟩
theorem EfW.new (h : EfW w9 td wl lk t1 t2 t3 k1 k2 k3) : EfB (w9.alloc (.cells #[.int .i64 st, .int .i64 at_, .slice t1 td.length k1, .slice t2 wl.length k2, .slice t3 lk.length k3] 43)) w9.heap.size st at_ td wl lk t1 t2 t3 k1 k2 k3 :=
  ⟨hp_new w9 _, ownsRow_kept h.o1 (Kept.ofBelow (below1 w9 _)) (fun _ _ e => e), ownsRow_kept h.o2 (Kept.ofBelow (below1 w9 _)) (fun _ _ e => e), ownsRow_kept h.o3 (Kept.ofBelow (below1 w9 _)) (fun _ _ e => e)⟩
end

theorem store_vl (v : Value) (T : KV) (w : World) (h : Rf w 4 v T.length (T.flatMap ecs)) (hl : T.length ≤ 1000) (hT : SOk T) :
    Calls Tryz.prog 10 #[.agg #[v, .slice none 0 0]] w fun e w' => ∃ p, e = .returned (.pointer (some ⟨p, 0, none⟩)) ∧ VL w' p T ∧ Below w.heap.size w w' := by
  refine (store_any v none 0 0 T w h hl (fun x hx => ?_)).mono ?_
  · have := isKey_256 (hT.el x hx).1
    omega
  · rintro e w' ⟨p, rfl, hp, hb⟩
    exact ⟨p, rfl, vl_of_store hp hT.asc, hb⟩

theorem run_ef (p : Nat) (av S : Value) (nm : ByteArray) (ar : Int) (xs : List Ins) (al : List Vd) (w : World) (dig : Int → List Int) (L : KV) (hc : CodeAt w S xs) (ha : Va w av al) (hl : xs.length ≤ 1000) (hla : al.length ≤ 1000)
    (hi : ∀ x ∈ xs, inR x.i = true) (hv : ∀ x ∈ al, inR x.i = true) (hV : VL w p L) (hL : LOk L) (hd : Digs dig w) (f : Ef) (hf : efR dig L nm ar xs al = f) :
    Calls Tryz.prog 12 #[.iface 35 (.pointer (some ⟨p, 0, none⟩)), .agg #[.string nm, .int .i64 ar, S], av] w fun e w' => ∃ t1 k1 t2 k2 t3 k3, e = .returned (.agg #[.int .i64 f.st, .int .i64 f.at_, .slice t1 f.td.length k1, .slice t2 f.wr.length k2, .slice t3 f.lk.length k3]) ∧ EfW w' f.td f.wr f.lk t1 t2 t3 k1 k2 k3 ∧ Below w.heap.size w w' := by
  refine (exec_all p av S nm ar xs al w dig L hc ha hl hla hi hv hV hL hd).mono ?_
  rintro e w' ⟨v, rfl, hE, hb⟩
  rw [hf] at hE
  obtain ⟨t1, k1, t2, k2, t3, k3, rfl, h1, h2, h3, -⟩ := hE.ex
  exact ⟨t1, k1, t2, k2, t3, k3, rfl, ⟨owns_mono h1 (Nat.zero_le _), owns_mono h2 (Nat.zero_le _), owns_mono h3 (Nat.zero_le _)⟩, hb⟩

end Go.Proofs.YthcoigbkdbkojaaGreat
