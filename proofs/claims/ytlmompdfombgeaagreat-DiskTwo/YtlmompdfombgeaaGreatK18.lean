import Derived.Test.YtlmompdfombgeaaGreatK17
import Derived.Test.YtlmompdfombgeaaGreatK09
namespace Go.Proofs.YtlmompdfombgeaaGreat
open Go.RowKit Go.MapKept

/-- A row that has lost a sector. -/
def loseS (fs : List Bool) (xs : List Int) (s : Nat) : List Int := loseTo (16 * s) (min (16 * s + 16) xs.length) xs fs
/-- How many sectors a row has. -/
def secs (m : Nat) : Nat := (m + 15) / 16
/-- A row that has lost some. -/
def loseAll (fs : List Bool) (lost : List Int) (xs : List Int) : List Int := lost.foldl (fun xs v => loseS fs xs (v % (secs xs.length : Int)).toNat) xs

theorem loseS_len (fs : List Bool) (xs : List Int) (s : Nat) : (loseS fs xs s).length = xs.length := loseTo_len _ _ _ _
theorem loseAll_len (fs : List Bool) : ∀ (lost : List Int) (xs : List Int), (loseAll fs lost xs).length = xs.length
  | [], _ => rfl
  | v :: l, xs => by
    show (loseAll fs l (loseS fs xs _)).length = _
    rw [loseAll_len fs l, loseS_len]

theorem loseAll_nil (fs : List Bool) (lost : List Int) : loseAll fs lost [] = [] := List.eq_nil_of_length_eq_zero (loseAll_len fs lost [])

/-- How many of m changes are done. -/
def firstN (done : Int) (m : Nat) : Nat := (done % ((m : Int) + 1)).toNat

theorem firstN_le (done : Int) (m : Nat) : firstN done m ≤ m := by
  unfold firstN
  have := Int.emod_lt_of_pos done (show (0 : Int) < (m : Int) + 1 by omega)
  omega

/-- The row that a crash would leave if no sector were lost. -/
def wholeF (done : Int) (f : Fi) : List Int × List Bool := rowC f.safe (f.cs.take (firstN done f.cs.length))
/-- What a crash leaves of a file. -/
def crashF (p : Int × List Int) (f : Fi) : Fi := ⟨f.no, loseAll (wholeF p.1 f).2 p.2 (wholeF p.1 f).1, []⟩

/-- What is picked of the file at a place. -/
def pkAt (pks : List (Int × List Int)) (i : Nat) : Int × List Int := (pks[i]?).getD (0, [])

/-- The first k files behind a crash. -/
def crashTo (pks : List (Int × List Int)) (k : Nat) (l : List Fi) : List Fi := l.mapIdx fun i f => if i < k then crashF (pkAt pks i) f else f

theorem crashTo_len (pks : List (Int × List Int)) (k : Nat) (l : List Fi) : (crashTo pks k l).length = l.length := by simp [crashTo]

theorem crashTo_zero (pks : List (Int × List Int)) (l : List Fi) : crashTo pks 0 l = l := by
  apply List.ext_getElem?
  intro i
  simp [crashTo, List.getElem?_mapIdx]

theorem crashTo_no (pks : List (Int × List Int)) (k : Nat) (l : List Fi) : (crashTo pks k l).map Fi.no = l.map Fi.no := by
  apply List.ext_getElem?
  intro i
  simp only [crashTo, List.getElem?_map, List.getElem?_mapIdx]
  cases l[i]? with
  | none => rfl
  | some f =>
    simp only [Option.map_some]
    split <;> rfl

theorem crashTo_get (pks : List (Int × List Int)) (k : Nat) (l : List Fi) (i : Nat) (f : Fi) (h : l[i]? = some f) (hk : k ≤ i) : (crashTo pks k l)[i]? = some f := by
  simp only [crashTo, List.getElem?_mapIdx, h, Option.map_some]
  rw [if_neg (by omega)]

theorem crashTo_step (pks : List (Int × List Int)) (k : Nat) (l : List Fi) (f : Fi) (h : l[k]? = some f) (nd : (l.map Fi.no).Nodup) : setF (crashF (pkAt pks k) f) (crashTo pks k l) = crashTo pks (k + 1) l := by
  apply List.ext_getElem?
  intro i
  simp only [setF, crashTo, List.getElem?_map, List.getElem?_mapIdx]
  cases hi : l[i]? with
  | none => rfl
  | some g =>
    simp only [Option.map_some, Option.some.injEq]
    have key : g.no = f.no → i = k := fun e => by
      have h1 : (l.map Fi.no)[i]? = some g.no := by rw [List.getElem?_map, hi]; rfl
      have h2 : (l.map Fi.no)[k]? = some f.no := by rw [List.getElem?_map, h]; rfl
      exact (List.getElem?_inj (by have := (List.getElem?_eq_some_iff.1 h1).1; exact this) nd).1 (by rw [h1, h2, e])
    have e1 : (crashF (pkAt pks k) f).no = f.no := rfl
    rw [e1]
    by_cases hik : i = k
    · subst hik
      have e : g = f := by rw [h] at hi; injection hi with hi; exact hi.symm
      subst e
      rw [if_neg (Nat.lt_irrefl i), if_pos rfl, if_pos (Nat.lt_succ_self i)]
    · have hne : g.no ≠ f.no := fun e => hik (key e)
      by_cases hlt : i < k
      · rw [if_pos hlt, if_neg (show (crashF (pkAt pks i) g).no ≠ f.no from hne), if_pos (by omega)]
      · rw [if_neg hlt, if_neg hne, if_neg (by omega)]

theorem crashF_peak (p : Int × List Int) (f : Fi) : (crashF p f).peak = (wholeF p.1 f).1.length := by
  exact (peakC_nil _).trans (loseAll_len _ _ _)

theorem crashF_le (p : Int × List Int) (f : Fi) : (crashF p f).peak ≤ f.peak := by
  rw [crashF_peak]
  exact take_le_peak _ _ _

/-- The disk with the first k files behind a crash. -/
def crashD (pks : List (Int × List Int)) (k : Nat) (D : Dq) : Dq := { D with files := crashTo pks k D.files }

/-- The bytes that a crash tells of a number's file. -/
def wholeN (pks : List (Int × List Int)) (D : Dq) (m : Int) : List Int :=
  ((D.files.zipIdx.find? fun x => decide (x.1.no = m)).map fun x => (wholeF (pkAt pks x.2).1 x.1).1).getD []

/-- The names that a crash leaves. -/
def crashNm (pn : Int) (D : Dq) : List (ByteArray × Int) := D.namesAt (firstN pn D.turns.length)

/-- A crash: what it answers, and the disk behind it. -/
def crashP (pn : Int) (pks : List (Int × List Int)) (D : Dq) : List (ByteArray × List Int) × Dq :=
  (toldN (crashNm pn D) (wholeN pks D), { settleD (crashNm pn D) (crashD pks D.files.length D) with off := false, st := 0, fs := [], rd := 0, fr := [] })

/-- Hand: the error, the disk behind it. -/
def handP (D : Dq) (nm : ByteArray) (bs : List Int) : Int × Dq :=
  if nmOK nm = false then (5, D)
  else if D.limit ≤ ((liveF (delA nm D.names) D.files).length : Int) then (9, D)
  else if D.room - (((liveF (delA nm D.names) D.files).map Fi.peak).sum : Nat) < (bs.length : Int) then (8, D)
  else (0, settleD (setA nm (D.made + 1) (delA nm D.names)) (addD bs D))

theorem wholeN_at (pks : List (Int × List Int)) (D : Dq) (nd : (D.files.map Fi.no).Nodup) (i : Nat) (f : Fi) (h : D.files[i]? = some f) : wholeN pks D f.no = (wholeF (pkAt pks i).1 f).1 := by
  unfold wholeN
  have hm : (f, i) ∈ D.files.zipIdx := by
    rw [List.mem_zipIdx_iff_getElem?]
    exact h
  cases hf : D.files.zipIdx.find? (fun x => decide (x.1.no = f.no)) with
  | none =>
    have := List.find?_eq_none.1 hf _ hm
    simp at this
  | some y =>
    have h1 : y.1.no = f.no := by simpa using List.find?_some hf
    have h2 := List.mem_of_find?_eq_some hf
    rw [List.mem_zipIdx_iff_getElem?] at h2
    have h3 : (D.files.map Fi.no)[y.2]? = some f.no := by rw [List.getElem?_map, h2, ← h1]; rfl
    have h4 : (D.files.map Fi.no)[i]? = some f.no := by rw [List.getElem?_map, h]; rfl
    have h5 : y.2 = i := (List.getElem?_inj (List.getElem?_eq_some_iff.1 h3).1 nd).1 (by rw [h3, h4])
    rw [h5, h] at h2
    injection h2 with h2
    simp only [Option.map_some, Option.getD_some]
    rw [h5, ← h2]

section
variable {D : Dq} {n : Nat}

theorem WD.crashD (h : WD n D) (pks : List (Int × List Int)) (k : Nat) : WD n (Go.Proofs.YtlmompdfombgeaaGreat.crashD pks k D) := by
  have e := crashTo_no pks k D.files
  have hget : ∀ g ∈ crashTo pks k D.files, ∃ f ∈ D.files, g = f ∨ ∃ p, g = crashF p f := fun g hg => by
    obtain ⟨i, hi⟩ := List.mem_iff_getElem?.1 hg
    simp only [crashTo, List.getElem?_mapIdx] at hi
    cases hf : D.files[i]? with
    | none => rw [hf] at hi; cases hi
    | some f =>
      rw [hf] at hi
      simp only [Option.map_some, Option.some.injEq] at hi
      refine ⟨f, List.mem_of_getElem? hf, ?_⟩
      split at hi
      · exact .inr ⟨_, hi.symm⟩
      · exact .inl hi.symm
  refine ⟨h.room, h.lim, h.made, ?_, ?_, ?_, ?_, ?_, h.tur, ?_, h.st, h.rd⟩
  · show ((crashTo pks k D.files).map Fi.no).Pairwise (· < ·)
    rw [e]; exact h.asc
  · intro g hg
    obtain ⟨f, hf, hg⟩ := hget g hg
    have : g.no = f.no := by rcases hg with rfl | ⟨p, rfl⟩ <;> rfl
    rw [this]
    exact h.rng f hf
  · show ((crashTo pks k D.files).length : Int) ≤ D.limit
    rw [crashTo_len]; exact h.cnt
  · show ((((crashTo pks k D.files).map Fi.peak).sum : Nat) : Int) ≤ D.room
    have h1 := h.hld
    have h2 : ((crashTo pks k D.files).map Fi.peak).sum ≤ (D.files.map Fi.peak).sum := by
      have : ∀ (j : Nat) (l : List Fi), ((l.mapIdx fun i f => if i + j < k then crashF (pkAt pks (i + j)) f else f).map Fi.peak).sum ≤ (l.map Fi.peak).sum := by
        intro j l
        induction l generalizing j with
        | nil => exact Nat.le_refl _
        | cons f l ih =>
          rw [List.mapIdx_cons, List.map_cons, List.sum_cons, List.map_cons, List.sum_cons]
          have h3 := ih (j + 1)
          have e : (fun i f => if i + 1 + j < k then crashF (pkAt pks (i + 1 + j)) f else f) = fun i f => if i + (j + 1) < k then crashF (pkAt pks (i + (j + 1))) f else f := by
            funext i f
            rw [show i + 1 + j = i + (j + 1) by omega]
          rw [e]
          have h4 : (if 0 + j < k then crashF (pkAt pks (0 + j)) f else f).peak ≤ f.peak := by
            split
            · exact crashF_le _ _
            · exact Nat.le_refl _
          omega
      exact this 0 D.files
    omega
  · intro j
    exact (h.saf j).of_no (fun m hm => by show m ∈ (crashTo pks k D.files).map Fi.no; rw [e]; exact hm)
  · intro g hg
    obtain ⟨f, hf, hg⟩ := hget g hg
    rcases hg with rfl | ⟨p, rfl⟩
    · exact h.chg g hf
    · exact ⟨Nat.zero_le _, fun k m e => by simp [crashF] at e⟩

theorem WD.crashP (h : WD n D) (pn : Int) (pks : List (Int × List Int)) : WD n (Go.Proofs.YtlmompdfombgeaaGreat.crashP pn pks D).2 := by
  have h1 := h.crashD pks D.files.length
  have h2 : NOK (Go.Proofs.YtlmompdfombgeaaGreat.crashD pks D.files.length D).files (crashNm pn D) := h1.saf (firstN pn D.turns.length)
  have h3 := h1.settle h2
  exact ⟨h3.room, h3.lim, h3.made, h3.asc, h3.rng, h3.cnt, h3.hld, h3.saf, h3.tur, h3.chg, ⟨Int.le_refl _, by show (0 : Int) ≤ _; omega⟩, ⟨Int.le_refl _, by show (0 : Int) ≤ _; omega⟩⟩

theorem hand_nok (h : WD n D) (nm : ByteArray) (bs : List Int) (hok : nmOK nm = true) : NOK (addD bs D).files (setA nm (D.made + 1) (delA nm D.names)) := by
  have hmem : ∀ m, m ∈ D.files.map Fi.no → m ∈ (D.files ++ [(⟨D.made + 1, bs, []⟩ : Fi)]).map Fi.no := fun m hm => by rw [List.map_append]; exact List.mem_append.2 (.inl hm)
  refine ((h.nam.of_no hmem).del nm).set nm _ hok (by show _ ∈ (D.files ++ [(⟨D.made + 1, bs, []⟩ : Fi)]).map Fi.no; rw [List.map_append]; exact List.mem_append.2 (.inr (by simp))) ?_
  intro hm
  obtain ⟨x, hx, e⟩ := List.mem_map.1 hm
  obtain ⟨g, hg, e'⟩ := List.mem_map.1 (h.nam.l x (mem_delA.1 hx).1)
  have := (h.rng g hg).2
  omega

theorem setA_delA (k : ByteArray) (v : Int) (l : List (ByteArray × Int)) : setA k v (delA k l) = delA k l ++ [(k, v)] := by
  unfold setA
  congr 1
  unfold delA
  rw [List.filter_filter]
  simp

/-- The files that are left when one is handed in. -/
theorem hand_files (h : WD n D) (nm : ByteArray) (bs : List Int) : (settleD (setA nm (D.made + 1) (delA nm D.names)) (addD bs D)).files = liveF (delA nm D.names) D.files ++ [⟨D.made + 1, bs, []⟩] := by
  show liveF _ (D.files ++ [_]) = _
  rw [setA_delA]
  unfold liveF
  rw [List.filter_append]
  congr 1
  · refine List.filter_congr fun f hf => ?_
    rw [List.map_append]
    have : f.no ≠ D.made + 1 := by have := (h.rng f hf).2; omega
    simp [this]
  · simp

theorem WD.handP (h : WD n D) (nm : ByteArray) (bs : List Int) : WD (n + 1) (Go.Proofs.YtlmompdfombgeaaGreat.handP D nm bs).2 := by
  unfold Go.Proofs.YtlmompdfombgeaaGreat.handP
  split
  · exact h.mono (by omega)
  · rename_i hok
    have hok : nmOK nm = true := by simpa using hok
    split
    · exact h.mono (by omega)
    · rename_i hlim
      split
      · exact h.mono (by omega)
      · rename_i hroom
        have hm := h.made
        have hN := hand_nok h nm bs hok
        have hs : (liveF (delA nm D.names) D.files).Sublist D.files := List.filter_sublist
        have hF := hand_files h nm bs
        refine ⟨h.room, h.lim, ⟨by show 0 ≤ D.made + 1; omega, by show D.made + 1 ≤ _; omega⟩, ?_, ?_, ?_, ?_, ?_, Nat.zero_le _, ?_, ⟨h.st.1, by have := h.st.2; show D.st ≤ _; omega⟩, ⟨h.rd.1, by have := h.rd.2; show D.rd ≤ _; omega⟩⟩
        · rw [hF, List.map_append, List.pairwise_append]
          refine ⟨h.asc.sublist (hs.map _), by simp, ?_⟩
          intro a ha b hb
          obtain ⟨g, hg, rfl⟩ := List.mem_map.1 ha
          simp at hb
          have := (h.rng g (mem_liveF.1 hg).1).2
          omega
        · intro g hg
          rw [hF] at hg
          rcases List.mem_append.1 hg with hg | hg
          · have := h.rng g (mem_liveF.1 hg).1
            exact ⟨this.1, by show g.no ≤ D.made + 1; omega⟩
          · simp at hg; subst hg; exact ⟨by show 1 ≤ D.made + 1; omega, Int.le_refl _⟩
        · rw [hF, List.length_append]
          show ((_ + 1 : Nat) : Int) ≤ D.limit
          omega
        · rw [hF, List.map_append, List.sum_append]
          have e : Fi.peak ⟨D.made + 1, bs, []⟩ = bs.length := peakC_nil bs
          simp only [List.map_cons, List.map_nil, List.sum_cons, List.sum_nil, e]
          show _ ≤ D.room
          omega
        · intro k
          have e : (settleD (setA nm (D.made + 1) (delA nm D.names)) (addD bs D)).namesAt k = setA nm (D.made + 1) (delA nm D.names) := by simp [Dq.namesAt, settleD]
          rw [e]
          refine ⟨hN.k, hN.n, fun x hx => ?_, hN.ok⟩
          obtain ⟨f, hf, e⟩ := List.mem_map.1 (hN.l x hx)
          exact List.mem_map.2 ⟨f, mem_liveF.2 ⟨hf, by rw [e]; exact List.mem_map.2 ⟨x, hx, rfl⟩⟩, e⟩
        · intro g hg
          rw [hF] at hg
          rcases List.mem_append.1 hg with hg | hg
          · have := h.chg g (mem_liveF.1 hg).1
            exact ⟨by omega, this.2⟩
          · simp at hg; subst hg; exact ⟨Nat.zero_le _, fun k m e => by simp at e⟩

end
end Go.Proofs.YtlmompdfombgeaaGreat

namespace Go.Proofs.YtlmompdfombgeaaGreat
open Go.RowKit Go.MapKept

theorem Tryz.elem110 : Tryz.prog.underlying 110 = some (.slice (Tryz.prog.elem 110)) := by kernel_rfl
theorem size110 (w : World) : (sizeOf (Tryz.prog.elem 110)).run Tryz.prog w = .ok 1 w := by kernel_rfl

/-- v[:k] of an owned row of changes. -/
theorem ownC_to {w : World} {B n : Nat} {v : Value} {xs : List Value} (h : w.ownsRow B 171 1 v n xs) (k : Nat) (hk : k ≤ n) :
    ∃ rv, (∀ wx : World, (Instr.slice 110 v none (some (.int .i64 k)) none).run Tryz.prog wx = .ok rv wx) ∧ w.ownsRow B 171 1 rv k (xs.take k) ∧ rv.ownBlock = v.ownBlock := by
  have hl : xs.length = n := by have := h.1; simp at this; omega
  rcases h.2 with ⟨rfl, h0⟩ | ⟨g, cap, cur, rfl, hb, hg, hc, hm, hs, ht⟩
  · obtain rfl : k = 0 := by omega
    refine ⟨.slice none 0 0, fun wx => ?_, by simpa using owns_nil w B 171 1, rfl⟩
    rw [run_slice_h wx 110 none 0 0 Tryz.elem110 .i64 ((0 : Nat) : Int) (by omega) (by omega), size110]
    rfl
  · refine ⟨.slice (some ⟨g, 0, none⟩) k cap, fun wx => ?_, ⟨by simp [hl]; omega, .inr ⟨g, cap, cur, rfl, hb, hg, by omega, hm, hs, ?_⟩⟩, rfl⟩
    · rw [run_slice_h wx 110 (some ⟨g, 0, none⟩) n cap Tryz.elem110 .i64 k (by omega) (by omega), size110]
      simp [sliced, add_lit]
    · have : (cur.toList.take (n * 1)).take (k * 1) = xs.take (k * 1) := by rw [ht]
      rw [List.take_take, Nat.min_eq_left (by omega)] at this
      rw [this]
      simp

theorem round_first (v : Int) (m : Nat) (w : World) (hv : I64 v) (hm : m ≤ 1000000) : Calls Tryz.prog 94 #[.int .i64 v, .int .i64 ((m : Int) + 1)] w fun x w' => x = .returned (.int .i64 (firstN v m)) ∧ w' = w := by
  refine (round_any v ((m : Int) + 1) w hv (by omega) (by omega)).mono ?_
  rintro x w' ⟨rfl, rfl⟩
  refine ⟨?_, rfl⟩
  unfold firstN
  have := Int.emod_nonneg v (show (m : Int) + 1 ≠ 0 by omega)
  rw [Int.toNat_of_nonneg this]

/-- The row that is being made. -/
structure RowAt (w : World) (B r : Nat) (vd vf : Value) (xs : List Int) (fs : List Bool) : Prop where
  blk : w.heap[r]? = some (.cells #[vd, vf] 109 (0, 0))
  od : w.ownsRow B 5 1 vd xs.length (B8 xs)
  of : w.ownsRow B 4 1 vf fs.length (BB fs)

theorem RowAt.kept {w w' : World} {B r : Nat} {vd vf : Value} {xs : List Int} {fs : List Bool} {S : Nat → Prop} (h : RowAt w B r vd vf xs fs) (hk : Kept S w w') (hS : ∀ k, B ≤ k → k < w.heap.size → ¬ S k) (hr : B ≤ r) : RowAt w' B r vd vf xs fs :=
  ⟨hp_kept h.blk hk (hS r hr (hp_lt h.blk)), ownsRow_kept h.od hk (fun k e => hS k (h.od.lt k e).1 (h.od.lt k e).2), ownsRow_kept h.of hk (fun k e => hS k (h.of.lt k e).1 (h.of.lt k e).2)⟩

theorem RowAt.below {w w' : World} {B r : Nat} {vd vf : Value} {xs : List Int} {fs : List Bool} (h : RowAt w B r vd vf xs fs) (hk : Below w.heap.size w w') (hr : B ≤ r) : RowAt w' B r vd vf xs fs := h.kept (Kept.ofBelow hk) (fun _ _ _ e => e) hr

/-- The row stored anew. -/
theorem RowAt.store {w w2 : World} {B r : Nat} {vd vf vd' vf' : Value} {xs xs' : List Int} {fs fs' : List Bool} (h : RowAt w B r vd vf xs fs) (hk : Kept (fun k => vd.ownBlock = some k ∨ vf.ownBlock = some k) w w2) (hd : w2.ownsRow B 5 1 vd' xs'.length (B8 xs')) (hf : w2.ownsRow B 4 1 vf' fs'.length (BB fs')) (hr : B ≤ r) :
    RowAt ((w2.setCell ⟨r, 0, none⟩ vd').setCell ⟨r, 1, none⟩ vf') B r vd' vf' xs' fs' ∧ w2.heap[r]? = some (.cells #[vd, vf] 109 (0, 0)) ∧ Kept (fun k => B ≤ k) w ((w2.setCell ⟨r, 0, none⟩ vd').setCell ⟨r, 1, none⟩ vf') := by
  have h2 : w2.heap[r]? = some (.cells #[vd, vf] 109 (0, 0)) := hp_kept h.blk hk (by
    rintro (e | e)
    · exact own_ne_blk h.od h.blk (by decide) e
    · exact own_ne_blk h.of h.blk (by decide) e)
  have K3 : Kept (fun k => k = r) w2 ((w2.setCell ⟨r, 0, none⟩ vd').setCell ⟨r, 1, none⟩ vf') := ((Kept.refl (fun k => k = r) w2).setCell (p := ⟨r, 0, none⟩) (fun _ => rfl) _).setCell (p := ⟨r, 1, none⟩) (fun _ => rfl) _
  refine ⟨⟨set_block (i := 1) (set_block (i := 0) h2 _) _, ?_, ?_⟩, h2, ?_⟩
  · exact ownsRow_kept hd K3 (fun k e e2 => by subst e2; exact own_ne_blk hd h2 (by decide) e)
  · exact ownsRow_kept hf K3 (fun k e e2 => by subst e2; exact own_ne_blk hf h2 (by decide) e)
  · refine (hk.mono (fun k _ e => ?_)).trans K3 (fun k _ e => by rw [e]; exact hr)
    rcases e with e | e
    · exact (h.od.lt k e).1
    · exact (h.of.lt k e).1

theorem rowC_take_succ (safe : List Int) (cs : List Chg) (k : Nat) (c : Chg) (h : cs[k]? = some c) : rowC safe (cs.take (k + 1)) = doC (rowC safe (cs.take k)) c := by
  rw [List.take_add_one, h]
  exact rowC_snoc _ _ _

/-- One change done to the row that is being made: bytes laid behind. -/
theorem doA_any (B r : Nat) (vd vf : Value) (xs : List Int) (fs : List Bool) (w : World) (sv : Value) (ys : List Int) (h : RowAt w B r vd vf xs fs) (hs : Sn w sv ys) (hl : fs.length = xs.length) (hB : B ≤ w.heap.size) (l1 : xs.length ≤ 10000000) (l2 : (doC (xs, fs) (.inl ys)).1.length ≤ 10000000) :
    Calls Tryz.prog 189 #[sv, .agg #[vd, vf]] w fun x w' => ∃ vd' vf', x = .returned (.agg #[vd', vf']) ∧ w'.ownsRow B 5 1 vd' (doC (xs, fs) (.inl ys)).1.length (B8 (doC (xs, fs) (.inl ys)).1) ∧ w'.ownsRow B 4 1 vf' (doC (xs, fs) (.inl ys)).2.length (BB (doC (xs, fs) (.inl ys)).2) ∧ Kept (fun k => vd.ownBlock = some k ∨ vf.ownBlock = some k) w w' := by
  have hll : (doC (xs, fs) (.inl ys)).1.length = xs.length + ys.length := by show (xs ++ ys).length = _; simp
  refine (doApp_any B sv vd vf ys xs fs w hs h.od h.of hB (by omega) (by omega) (by omega)).mono ?_
  rintro x w' ⟨vd', vf', rfl, a, b, _, _, k⟩
  exact ⟨vd', vf', rfl, a, b, k⟩

/-- A cut. -/
theorem doB_any (B r : Nat) (vd vf : Value) (xs : List Int) (fs : List Bool) (w : World) (m : Nat) (h : RowAt w B r vd vf xs fs) (hm : m ≤ xs.length) (hl : fs.length = xs.length) (l1 : xs.length ≤ 10000000) :
    Calls Tryz.prog 190 #[.int .i64 m, .agg #[vd, vf]] w fun x w' => ∃ vd' vf', x = .returned (.agg #[vd', vf']) ∧ w'.ownsRow B 5 1 vd' (doC (xs, fs) (.inr m)).1.length (B8 (doC (xs, fs) (.inr m)).1) ∧ w'.ownsRow B 4 1 vf' (doC (xs, fs) (.inr m)).2.length (BB (doC (xs, fs) (.inr m)).2) ∧ Kept (fun k => vd.ownBlock = some k ∨ vf.ownBlock = some k) w w' := by
  refine (doCut_any B m vd vf xs fs w h.od h.of hm (by omega) (by omega)).mono ?_
  rintro x w' ⟨vd', vf', rfl, a, b, _, _, k⟩
  have e1 : (doC (xs, fs) (.inr m)).1.length = m := by show (xs.take m).length = m; rw [List.length_take]; omega
  have e2 : (doC (xs, fs) (.inr m)).2.length = m := by show (fs.take m).length = m; rw [List.length_take]; omega
  rw [e1, e2]
  exact ⟨vd', vf', rfl, a, b, (Kept.ofBelow k).mono (fun _ _ e => e.elim)⟩

theorem round_secs (v : Int) (n : Nat) (w : World) (hv : I64 v) (h0 : 0 < n) (h1 : n ≤ 100000000) : Calls Tryz.prog 94 #[.int .i64 v, .int .i64 (((n : Int) + 16 - 1) / 16)] w fun x w' => x = .returned (.int .i64 ((v % (secs n : Int)).toNat : Nat)) ∧ w' = w := by
  have e : (((n : Int) + 16 - 1) / 16) = (secs n : Int) := by unfold secs; omega
  have hp : (0 : Int) < (secs n : Int) := by unfold secs; omega
  rw [e]
  refine (round_any v (secs n) w hv hp (by unfold secs; omega)).mono ?_
  rintro x w' ⟨rfl, rfl⟩
  refine ⟨?_, rfl⟩
  rw [Int.toNat_of_nonneg (Int.emod_nonneg v (by omega))]

theorem secs_lt (v : Int) (n : Nat) (h0 : 0 < n) : 16 * (v % (secs n : Int)).toNat ≤ n := by
  have hp : (0 : Int) < (secs n : Int) := by unfold secs; omega
  have h1 := Int.emod_lt_of_pos v hp
  have h2 := Int.emod_nonneg v (show (secs n : Int) ≠ 0 by omega)
  have : (v % (secs n : Int)).toNat < secs n := by omega
  unfold secs at this ⊢
  omega

theorem loseAll_succ (fs : List Bool) (lost : List Int) (j : Nat) (v : Int) (h : lost[j]? = some v) (xs : List Int) : loseAll fs (lost.take (j + 1)) xs = loseS fs (loseAll fs (lost.take j) xs) (v % (secs xs.length : Int)).toNat := by
  rw [List.take_add_one, h]
  have e : loseAll fs (lost.take j ++ [v]) xs = loseS fs (loseAll fs (lost.take j) xs) (v % (secs (loseAll fs (lost.take j) xs).length : Int)).toNat := by
    unfold loseAll
    rw [List.foldl_append]
    rfl
  rw [loseAll_len] at e
  exact e

end Go.Proofs.YtlmompdfombgeaaGreat
