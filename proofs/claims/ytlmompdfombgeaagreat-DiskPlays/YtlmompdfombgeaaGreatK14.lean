import Derived.Test.YtlmompdfombgeaaGreatK13
namespace Go.Proofs.YtlmompdfombgeaaGreat
open Go.RowKit Go.MapKept

theorem Pends.mem {w : World} {B : Nat} {vs vd : Value} {pend : List Value} {cs : List Chg} (hp : Pends w B vs vd pend cs) {sv : Value} (hm : Value.iface 124 sv ∈ pend) {k : Nat} (e : sv.ownBlock = some k) : (∃ c5, w.heap[k]? = some (.cells c5 5 (0, 0))) ∧ vs.ownBlock ≠ some k ∧ vd.ownBlock ≠ some k := by
  obtain ⟨i, hi, hv⟩ := List.mem_iff_getElem.1 hm
  have hi2 : i < cs.length := by have := hp.1; omega
  have := hp.2 i _ _ (by rw [List.getElem?_eq_getElem hi, hv]) (List.getElem?_eq_getElem hi2)
  cases hc : cs[i] with
  | inr n => rw [hc] at this; cases this
  | inl ys =>
    rw [hc] at this
    obtain ⟨sv', e', _, hb⟩ := this
    injection e' with _ e'
    subst e'
    obtain ⟨_, a, b, c⟩ := hb k e
    exact ⟨a, b, c⟩

section
variable {w : World} {ft : Nat → Prop} {p : Nat} {f : Fi}

theorem pendApp_fil (h : Fil w ft p f) (sv : Value) (ys : List Int) (hs : Sn w sv ys) (hsb : ∀ k, sv.ownBlock = some k → ¬ ft k ∧ ∃ c5, w.heap[k]? = some (.cells c5 5 (0, 0))) (l1 : f.cs.length ≤ 1000000) (l2 : f.peak ≤ 10000000) (l3 : ys.length ≤ 10000000) :
    Calls Tryz.prog 81 #[.pointer (some ⟨p, 0, none⟩), .iface 124 sv] w fun x w' => x = .returned (.tuple #[]) ∧ ∃ ft', Fil w' ft' p { f with cs := f.cs ++ [.inl ys] } ∧ Kept ft w w' ∧ ∀ k, ft' k → ft k ∨ w.heap.size ≤ k ∨ sv.ownBlock = some k := by
  obtain ⟨pend, vs, vp, vd, vf, hf, hp, ht⟩ := h
  have hr := row_le_peak f.safe f.cs
  have hr2 := rowC_len f.safe f.cs
  have hrw : f.row = rowC f.safe f.cs := rfl
  have hpk : f.peak = peakC f.safe f.cs := rfl
  have hpl := hp.1
  have fp : ∀ k, vp.ownBlock = some k → ft k := fun k e => (ht k).2 (.inr (.inr (.inl e)))
  have fd : ∀ k, vd.ownBlock = some k → ft k := fun k e => (ht k).2 (.inr (.inr (.inr (.inl e))))
  have ff : ∀ k, vf.ownBlock = some k → ft k := fun k e => (ht k).2 (.inr (.inr (.inr (.inr (.inl e)))))
  have fs : ∀ k, vs.ownBlock = some k → ft k := fun k e => (ht k).2 (.inr (.inl e))
  have f0 : ft p := (ht p).2 (.inl rfl)
  refine (pendApp_any 0 p sv ys w f.safe pend f.row.1 f.row.2 f.peak vs vp vd vf hf hs (Nat.zero_le _) (by omega) (by rw [hrw]; omega) (by rw [hrw]; omega) (by omega) (by omega) (by omega) (fun k e => ⟨fun e2 => (hsb k e).1 (by rw [e2]; exact f0), fun e2 => (hsb k e).1 (fp k e2)⟩)).mono ?_
  rintro x w' ⟨rfl, vp', vd', vf', hf', hl, hk', hlp, hlf⟩
  have hrow : Fi.row { f with cs := f.cs ++ [.inl ys] } = (f.row.1 ++ ys, f.row.2 ++ List.replicate ys.length true) := by unfold Fi.row; rw [rowC_snoc]; rfl
  have hpeak : ((Fi.peak { f with cs := f.cs ++ [.inl ys] } : Nat) : Int) = max (f.peak : Int) ((f.row.1 ++ ys).length : Nat) := by
    unfold Fi.peak
    rw [peakC_snoc, rowC_snoc]
    show ((max (peakC f.safe f.cs) (f.row.1 ++ ys).length : Nat) : Int) = _
    omega
  have hkS : Kept ft w w' := hk'.mono (by
    rintro k _ (rfl | e | e | e)
    · exact f0
    · exact fp k e
    · exact fd k e
    · exact ff k e)
  refine ⟨rfl, ftOf p (pend ++ [.iface 124 sv]) vs vp' vd' vf', ⟨pend ++ [.iface 124 sv], vs, vp', vd', vf', ?_, ?_, fun k => Iff.rfl⟩, hkS, ?_⟩
  · rw [hrow, hpeak]
    exact hf'
  · refine Pends.snoc ?_ ?_
    · refine hp.keptOf hk' ?_ (.inl rfl) ?_
      · rintro sv' k hm e hS
        obtain ⟨⟨c5, a⟩, b, c⟩ := hp.mem hm e
        rcases hS with rfl | e2 | e2 | e2
        · exact hp_ne hf.blk a (by simp) rfl
        · exact own_ne_blk hf.op a (by decide) e2
        · exact c e2
        · exact own_ne_blk hf.of a (by decide) e2
      · rcases hl with hl | ⟨k, h1, h2⟩
        · exact .inl hl
        · exact .inr fun j e => by rw [h2] at e; injection e with e; omega
    · refine ⟨sv, rfl, hs.kept hkS (fun k e => (hsb k e).1), fun k e => ⟨Nat.zero_le _, ?_, fun e2 => (hsb k e).1 (fs k e2), ?_⟩⟩
      · obtain ⟨c5, a⟩ := (hsb k e).2
        exact ⟨c5, hp_kept a hkS (hsb k e).1⟩
      · intro e2
        rcases hl with hl | ⟨j, h1, h2⟩
        · rw [hl] at e2; exact (hsb k e).1 (fd k e2)
        · rw [h2] at e2; injection e2 with e2
          obtain ⟨c5, a⟩ := (hsb k e).2
          have := hp_lt a
          omega
  · rintro k (rfl | e | e | e | e | ⟨sv', hm, e⟩)
    · exact .inl f0
    · exact .inl (fs k e)
    · rcases hlp with hlp | ⟨j, h1, h2⟩
      · rw [hlp] at e; exact .inl (fp k e)
      · rw [h2] at e; injection e with e; exact .inr (.inl (by omega))
    · rcases hl with hl | ⟨j, h1, h2⟩
      · rw [hl] at e; exact .inl (fd k e)
      · rw [h2] at e; injection e with e; exact .inr (.inl (by omega))
    · rcases hlf with hlf | ⟨j, h1, h2⟩
      · rw [hlf] at e; exact .inl (ff k e)
      · rw [h2] at e; injection e with e; exact .inr (.inl (by omega))
    · rcases List.mem_append.1 hm with hm | hm
      · exact .inl ((ht k).2 (.inr (.inr (.inr (.inr (.inr ⟨sv', hm, e⟩))))))
      · rw [List.mem_singleton] at hm
        injection hm with _ hm
        subst hm
        exact .inr (.inr e)

theorem pendCut_fil (h : Fil w ft p f) (c : Nat) (hc : c ≤ f.row.1.length) (l1 : f.cs.length ≤ 1000000) (l2 : f.peak ≤ 10000000) :
    Calls Tryz.prog 81 #[.pointer (some ⟨p, 0, none⟩), .iface 125 (.int .i64 c)] w fun x w' => x = .returned (.tuple #[]) ∧ ∃ ft', Fil w' ft' p { f with cs := f.cs ++ [.inr c] } ∧ Kept ft w w' ∧ ∀ k, ft' k → ft k ∨ w.heap.size ≤ k := by
  obtain ⟨pend, vs, vp, vd, vf, hf, hp, ht⟩ := h
  have hr := row_le_peak f.safe f.cs
  have hr2 := rowC_len f.safe f.cs
  have hrw : f.row = rowC f.safe f.cs := rfl
  have hpk : f.peak = peakC f.safe f.cs := rfl
  have hpl := hp.1
  have fp : ∀ k, vp.ownBlock = some k → ft k := fun k e => (ht k).2 (.inr (.inr (.inl e)))
  have fd : ∀ k, vd.ownBlock = some k → ft k := fun k e => (ht k).2 (.inr (.inr (.inr (.inl e))))
  have ff : ∀ k, vf.ownBlock = some k → ft k := fun k e => (ht k).2 (.inr (.inr (.inr (.inr (.inl e)))))
  have fs : ∀ k, vs.ownBlock = some k → ft k := fun k e => (ht k).2 (.inr (.inl e))
  have f0 : ft p := (ht p).2 (.inl rfl)
  rw [hrw] at hc
  refine (pendCut_any 0 p c w f.safe pend f.row.1 f.row.2 f.peak vs vp vd vf hf (Nat.zero_le _) (by omega) (by rw [hrw]; omega) (by rw [hrw]; omega) (by rw [hrw]; omega) (by omega) (by omega) (by omega)).mono ?_
  rintro x w' ⟨rfl, vp', vd', vf', hf', hl, hk', hlp, hlf⟩
  have hrow : Fi.row { f with cs := f.cs ++ [.inr c] } = (f.row.1.take c, f.row.2.take c) := by unfold Fi.row; rw [rowC_snoc]; rfl
  have hpeak : (Fi.peak { f with cs := f.cs ++ [.inr c] }) = f.peak := by
    unfold Fi.peak
    rw [peakC_snoc, rowC_snoc]
    show max (peakC f.safe f.cs) (f.row.1.take c).length = peakC f.safe f.cs
    rw [List.length_take, hrw]
    omega
  have hkS : Kept ft w w' := hk'.mono (by
    rintro k _ (rfl | e)
    · exact f0
    · exact fp k e)
  refine ⟨rfl, ftOf p (pend ++ [.iface 125 (.int .i64 c)]) vs vp' vd' vf', ⟨pend ++ [.iface 125 (.int .i64 c)], vs, vp', vd', vf', ?_, ?_, fun k => Iff.rfl⟩, hkS, ?_⟩
  · rw [hrow, hpeak]
    exact hf'
  · refine Pends.snoc ?_ rfl
    refine hp.keptOf hk' ?_ (.inl rfl) (.inl hl)
    rintro sv' k hm e hS
    obtain ⟨⟨c5, a⟩, b, c⟩ := hp.mem hm e
    rcases hS with rfl | e2
    · exact hp_ne hf.blk a (by simp) rfl
    · exact own_ne_blk hf.op a (by decide) e2
  · rintro k (rfl | e | e | e | e | ⟨sv', hm, e⟩)
    · exact .inl f0
    · exact .inl (fs k e)
    · rcases hlp with hlp | ⟨j, h1, h2⟩
      · rw [hlp] at e; exact .inl (fp k e)
      · rw [h2] at e; injection e with e; exact .inr (by omega)
    · rw [hl] at e; exact .inl (fd k e)
    · rw [hlf] at e; exact .inl (ff k e)
    · rcases List.mem_append.1 hm with hm | hm
      · exact .inl ((ht k).2 (.inr (.inr (.inr (.inr (.inr ⟨sv', hm, e⟩))))))
      · rw [List.mem_singleton] at hm
        injection hm with hm
        simp at hm

theorem sync_fil (h : Fil w ft p f) (l2 : f.peak ≤ 10000000) :
    Calls Tryz.prog 84 #[.pointer (some ⟨p, 0, none⟩)] w fun x w' => x = .returned (.tuple #[]) ∧ ∃ ft', Fil w' ft' p { f with safe := f.row.1, cs := [] } ∧ Kept ft w w' ∧ ∀ k, ft' k → ft k ∨ w.heap.size ≤ k := by
  obtain ⟨pend, vs, vp, vd, vf, hf, hp, ht⟩ := h
  have hr := row_le_peak f.safe f.cs
  have hs := safe_le_peak f.safe f.cs
  have hrw : f.row = rowC f.safe f.cs := rfl
  have hpk : f.peak = peakC f.safe f.cs := rfl
  have fp : ∀ k, vp.ownBlock = some k → ft k := fun k e => (ht k).2 (.inr (.inr (.inl e)))
  have fd : ∀ k, vd.ownBlock = some k → ft k := fun k e => (ht k).2 (.inr (.inr (.inr (.inl e))))
  have ff : ∀ k, vf.ownBlock = some k → ft k := fun k e => (ht k).2 (.inr (.inr (.inr (.inr (.inl e)))))
  have fs : ∀ k, vs.ownBlock = some k → ft k := fun k e => (ht k).2 (.inr (.inl e))
  have f0 : ft p := (ht p).2 (.inl rfl)
  obtain ⟨m, t, h1, h2, h3, h4⟩ := rowC_shape f.safe f.cs
  rw [← hrw] at h1 h2 h4
  rw [h1] at hf
  refine (sync_any 0 p w f.safe pend f.row.1 m t f.peak vs vp vd vf hf (Nat.zero_le _) h2 h3 h4 (by rw [hrw]; omega) (by omega)).mono ?_
  rintro x w' ⟨rfl, vs', hf', hk', hls⟩
  have hkS : Kept ft w w' := hk'.mono (by
    rintro k _ (rfl | e | e)
    · exact f0
    · exact fs k e
    · exact ff k e)
  refine ⟨rfl, ftOf p [] vs' (.slice none 0 0) vd vf, ⟨[], vs', .slice none 0 0, vd, vf, ?_, Pends.nil _ _ _ _, fun k => Iff.rfl⟩, hkS, ?_⟩
  · have e : Fi.row { f with safe := f.row.1, cs := [] } = (f.row.1, frs (m + t) 0) := by
      unfold Fi.row rowC
      simp only [List.foldl_nil]
      rw [frs_zero, ← h2]
      rfl
    rw [e]
    exact hf'
  · rintro k (rfl | e | e | e | e | ⟨sv', hm, e⟩)
    · exact .inl f0
    · rcases hls with hls | ⟨j, h5, h6⟩
      · rw [hls] at e; exact .inl (fs k e)
      · rw [h6] at e; injection e with e; exact .inr (by omega)
    · simp [Value.ownBlock] at e
    · exact .inl (fd k e)
    · exact .inl (ff k e)
    · cases hm

/-- A file that is new. -/
theorem fil_new {w' : World} {B p : Nat} {bs : List Int} {vs vd vf : Value} (hf : FileAt w' B p bs [] bs (List.replicate bs.length false) bs.length vs (.slice none 0 0) vd vf) (hp : B ≤ p) (no : Int) : ∃ ft', Fil w' ft' p ⟨no, bs, []⟩ ∧ ∀ k, ft' k → B ≤ k := by
  refine ⟨ftOf p [] vs (.slice none 0 0) vd vf, ⟨[], vs, .slice none 0 0, vd, vf, hf.base (Nat.zero_le _), Pends.nil _ _ _ _, fun k => Iff.rfl⟩, ?_⟩
  rintro k (rfl | e | e | e | e | ⟨sv', hm, e⟩)
  · exact hp
  · exact (hf.os.lt k e).1
  · simp [Value.ownBlock] at e
  · exact (hf.od.lt k e).1
  · exact (hf.of.lt k e).1
  · cases hm

end
end Go.Proofs.YtlmompdfombgeaaGreat

namespace Go.Proofs.YtlmompdfombgeaaGreat
open Go.RowKit Go.MapKept

theorem nm_ne {nm : ByteArray} (h : nmOK nm = true) : nm.toList.isEmpty = false := by
  have h1 : 1 ≤ nm.size := by
    unfold nmOK at h
    simp only [Bool.and_eq_true, decide_eq_true_eq] at h
    exact h.1.1
  rw [ByteArray.toList_eq]
  cases hl : nm.data.toList with
  | nil =>
    have : nm.data.size = 0 := by rw [← Array.length_toList, hl]; rfl
    have : nm.size = 0 := this
    omega
  | cons _ _ => rfl

theorem nm_size {nm : ByteArray} (h : nmOK nm = true) : nm.size ≤ 40 := by
  unfold nmOK at h
  simp only [Bool.and_eq_true, decide_eq_true_eq] at h
  exact h.1.2

theorem nm_ne_empty {nm : ByteArray} (h : nmOK nm = true) : nm ≠ ⟨#[]⟩ := by
  rintro rfl
  cases h

section
variable {κ : Type} [DecidableEq κ]

theorem setK_perm (k : κ) (v : Value) : ∀ (kv : List (κ × Value)), (kv.map Prod.fst).Nodup → (setK k v kv).Perm (delK k kv ++ [(k, v)]) := by
  intro kv hn
  unfold setK
  split
  · rename_i h
    rw [delK_none h]
  · rename_i h
    rw [lo_lookup] at h
    induction kv with
    | nil => exact absurd rfl h
    | cons x l ih =>
      rw [List.map_cons, List.nodup_cons] at hn
      rw [lo] at h
      rw [List.map_cons]
      by_cases hx : x.1 = k
      · have hno : ∀ y ∈ l, y.1 ≠ k := fun y hy e => hn.1 (by rw [hx, ← e]; exact List.mem_map.2 ⟨y, hy, rfl⟩)
        have e1 : l.map (fun x => if x.1 = k then (k, v) else x) = l := by
          conv => rhs; rw [← List.map_id l]
          exact List.map_congr_left fun y hy => by rw [if_neg (hno y hy)]; rfl
        have e2 : delK k (x :: l) = l := by
          unfold delK
          rw [List.filter_cons_of_neg (by simp [hx])]
          exact List.filter_eq_self.2 fun y hy => by simpa using hno y hy
        rw [if_pos hx, e1, e2]
        exact (List.perm_append_singleton _ _).symm
      · rw [if_neg hx] at h ⊢
        have e2 : delK k (x :: l) = x :: delK k l := by
          unfold delK
          rw [List.filter_cons_of_pos (by simpa using hx)]
        rw [e2]
        exact (ih hn.2 h).cons x

theorem delK_keys (k : κ) {kv : List (κ × Value)} (hn : (kv.map Prod.fst).Nodup) : ((delK k kv).map Prod.fst).Nodup := hn.sublist (List.Sublist.map _ (List.filter_sublist))

theorem delK_perm (k : κ) {kv kv' : List (κ × Value)} (h : kv.Perm kv') : (delK k kv).Perm (delK k kv') := h.filter _
end

theorem encN_del (k : ByteArray) (l : List (ByteArray × Int)) : delK k (encN l) = encN (delA k l) := by
  unfold delK encN delA
  rw [List.filter_map]
  congr 1

theorem doN_perm (frm to : ByteArray) (file : Int) {kv : List (ByteArray × Value)} {l : List (ByteArray × Int)} (h : kv.Perm (encN l)) (hn : (kv.map Prod.fst).Nodup) : (doN frm to file kv).Perm (encN (doT l (frm, to, file))) := by
  have h1 : (delK frm kv).Perm (encN (delA frm l)) := by
    rw [← encN_del]
    exact delK_perm frm h
  unfold doN doT
  split
  · exact h1
  · refine (setK_perm to _ _ (delK_keys frm hn)).trans ?_
    unfold setA
    rw [show encN (delA to (delA frm l) ++ [(to, file)]) = encN (delA to (delA frm l)) ++ [(to, .int .i64 file)] by simp [encN]]
    refine List.Perm.append_right _ ?_
    rw [← encN_del]
    exact delK_perm to h1

theorem encT_snoc (l : List Nmg) (frm to : ByteArray) (file : Int) : encT (l ++ [(frm, to, file)]) = encT l ++ [.string frm, .string to, .int .i64 file] := by simp [encT]

section
variable {w : World} {d : Nat} {t : Wt} {D : Dq} {n : Nat}

/-- A change of the names, done and pending. -/
def turnD (frm to : ByteArray) (file : Int) (D : Dq) : Dq := { D with turns := D.turns ++ [(frm, to, file)] }

theorem turnD_names (frm to : ByteArray) (file : Int) (D : Dq) : (turnD frm to file D).names = doT D.names (frm, to, file) := by simp [Dq.names, turnD, List.foldl_append]

theorem pendN_dk (h : DkT w d t D) (frm to : ByteArray) (file : Int) (hl : D.turns.length ≤ 1000000) (h1 : frm.size ≤ 1000000) (h2 : to.size ≤ 1000000) :
    Calls Tryz.prog 78 #[.pointer (some ⟨d, 0, none⟩), .agg #[.string frm, .string to, .int .i64 file]] w fun x w' => x = .returned (.tuple #[]) ∧ ∃ t', Goes d w t D w' t' (turnD frm to file D) ∧ t'.N = t.N := by
  obtain ⟨a1, a2, a3, a4, a5, a6, a7⟩ := h.apart
  have vnL : t.vn.ownBlock ≠ some t.L := fun e => by
    obtain ⟨cs, a⟩ := owns_block h.nam _ e
    exact hp_ne h.hL.blk a (by simp) rfl
  have vnF : t.vn.ownBlock ≠ some t.F := fun e => by
    obtain ⟨cs, a⟩ := owns_block h.nam _ e
    exact hp_ne h.hF.blk a (by simp) rfl
  have vnk1 : ∀ b, t.k1 = .map (some b) → t.vn.ownBlock ≠ some b := fun b e e' => by
    obtain ⟨cs, a⟩ := owns_block h.nam _ e'
    obtain ⟨es, c, a'⟩ := (show KF w (.map (some b)) D.fs from e ▸ h.kf1).blk
    exact hp_ne a a' (by simp) rfl
  have vnk2 : ∀ b, t.k2 = .map (some b) → t.vn.ownBlock ≠ some b := fun b e e' => by
    obtain ⟨cs, a⟩ := owns_block h.nam _ e'
    obtain ⟨es, c, a'⟩ := (show KF w (.map (some b)) D.fr from e ▸ h.kf2).blk
    exact hp_ne a a' (by simp) rfl
  refine (pend_names 0 d frm to file w D.room D.limit (.map (some t.L)) D.made t.N (.map (some t.F)) t.vn D.off D.st t.k1 D.rd t.k2 t.eN t.cN D.turns.length (encT D.turns) (fun w' => ∃ es' c', MG KS w' t.N (doN frm to file t.kn) es' c') h.disk h.hN.blk (Nat.zero_le _) h.nam hl h1 h2 (fun wx hx => do_gen frm to file t.N t.kn t.eN t.cN wx ⟨hx, h.hN.hold, h.hN.nd, h.hN.kvs, h.hN.keys⟩)).mono ?_
  rintro x w' ⟨rfl, vn', hD', ⟨es', c', hM'⟩, hv', hk, hvo⟩
  refine ⟨rfl, { t with vn := vn', kn := doN frm to file t.kn, eN := es', cN := c' }, ⟨⟨hD', h.hL.kept hk ?_, hM', h.hF.kept hk ?_, h.pl, ?_, h.pf, h.ln, h.lf, h.nf, ?_, h.dis, ?_, h.kf1.keptOf hk ?_, h.kf2.keptOf hk ?_, h.kd⟩, hk.mono ?_, ?_⟩, rfl⟩
  · rintro (e | e | e)
    · exact a1 e.symm
    · exact h.ln e
    · exact vnL e
  · rintro (e | e | e)
    · exact a3 e.symm
    · exact h.nf e.symm
    · exact vnF e
  · rw [turnD_names]
    exact doN_perm frm to file h.pn h.hN.keys
  · intro f hf
    refine (h.fil f hf).kept hk ?_
    intro k e
    obtain ⟨b1, b2, b3, b4, b5, b6, b7⟩ := h.fapart hf e
    rintro (e | e | e)
    · exact b1 e
    · exact b3 e
    · exact b5 e
  · show w'.ownsRow 0 121 3 vn' (D.turns ++ [(frm, to, file)]).length (encT (D.turns ++ [(frm, to, file)]))
    rw [encT_snoc, List.length_append]
    exact hv'
  · rintro b e (e' | e' | e')
    · subst e'; exact a5 e
    · exact (h.kd b (.inl e)).2.1 e'
    · exact vnk1 b e e'
  · rintro b e (e' | e' | e')
    · subst e'; exact a6 e
    · exact (h.kd b (.inr e)).2.1 e'
    · exact vnk2 b e e'
  · rintro k _ (e | e | e)
    · exact .inl e
    · exact .inr (.inr (.inl e))
    · exact .inr (.inr (.inr (.inr (.inl e))))
  · rintro k (e | e | e | e | e | e | e | e)
    · exact .inl (.inl e)
    · exact .inl (.inr (.inl e))
    · exact .inl (.inr (.inr (.inl e)))
    · exact .inl (.inr (.inr (.inr (.inl e))))
    · rcases hvo with e2 | ⟨j, e2, e3⟩
      · exact .inl (.inr (.inr (.inr (.inr (.inl (e2.symm.trans e))))))
      · have : some j = some k := e3.symm.trans e
        injection this with this
        exact .inr (by omega)
    · exact .inl (.inr (.inr (.inr (.inr (.inr (.inl e))))))
    · exact .inl (.inr (.inr (.inr (.inr (.inr (.inr (.inl e)))))))
    · exact .inl (.inr (.inr (.inr (.inr (.inr (.inr (.inr e)))))))

/-- A file more, with a name. -/
def createK (nm : ByteArray) (D : Dq) : Int × Dq :=
  if D.limit ≤ (D.files.length : Int) then (9, D) else (0, { D with made := D.made + 1, files := D.files ++ [⟨D.made + 1, [], []⟩], turns := D.turns ++ [(⟨#[]⟩, nm, D.made + 1)] })

theorem delA_none {k : ByteArray} {l : List (ByteArray × Int)} (h : ∀ x ∈ l, x.1 ≠ k) : delA k l = l := List.filter_eq_self.2 fun x hx => by simpa using h x hx

set_option maxRecDepth 100000 in
set_option maxHeartbeats 1000000 in
theorem create1_full (d xd xn : Nat) (f : Value) (w : World) (limit : Int) (L : Nat) (fs : Array MapEntry) (c : Nat)
    (c2 : w.cell? ⟨d, 2, none⟩ = some (.map (some L))) (c1 : w.cell? ⟨d, 1, none⟩ = some (.int .i64 limit)) (hL : w.heap[L]? = some (.map fs c)) (hxd : w.cell? ⟨xd, 0, none⟩ = some (.pointer (some ⟨d, 0, none⟩))) (hlim : limit ≤ (fs.size : Int)) :
    Calls Tryz.prog 77 #[f, .pointer (some ⟨xd, 0, none⟩), .pointer (some ⟨xn, 0, none⟩)] w fun x w' => x = .returned (.int .i64 9) ∧ Below w.heap.size w w' := by
  have hlen : ∀ m ty, (Builtin.len_ #[46] ty #[.map (some L)]).run Tryz.prog (w.drewN m) = .ok (.int .i64 fs.size) (w.drewN m) := fun m ty => len_map (w := w.drewN m) Tryz.underlying46 hL ty
  have j : decide (limit ≤ (fs.size : Int)) = true := by simpa using hlim
  clear hL
  go_enter Tryz.func77, Tryz.ntmps77
  go_wp2
  go_quiet (fail)
  go_wp2
  go_ret
  exact ⟨rfl, below_drewN (Below.refl _ _) _⟩

end
end Go.Proofs.YtlmompdfombgeaaGreat

namespace Go.Proofs.YtlmompdfombgeaaGreat
open Go.RowKit Go.MapKept

section
variable {w : World} {d : Nat} {t : Wt} {D : Dq} {n : Nat}

theorem dlook_none (hW : WD n D) {nm : ByteArray} (h : D.look nm = none) : lo nm D.names = none := by
  cases e : lo nm D.names with
  | none => rfl
  | some m =>
    obtain ⟨f, hf⟩ := ff_some (hW.nam.l _ (lo_mem e))
    replace hf : ff m D.files = some f := hf
    simp [Dq.look, e, hf] at h

theorem DkT.lsize (h : DkT w d t D) : t.eL.size = D.files.length := by
  rw [h.hL.size, h.pl.length_eq]
  simp [encL]

theorem createC_dk (h : DkT w d t D) (hW : WD n D) (hn : n ≤ 1000000) (xd xn : Nat) (f : Value) (nm : ByteArray) (hok : nmOK nm = true) (hl : D.look nm = none)
    (hxd : w.cell? ⟨xd, 0, none⟩ = some (.pointer (some ⟨d, 0, none⟩))) (hxn : w.cell? ⟨xn, 0, none⟩ = some (.string nm)) (hd1 : xd ≠ d) (hd2 : xn ≠ d) :
    Calls Tryz.prog 77 #[f, .pointer (some ⟨xd, 0, none⟩), .pointer (some ⟨xn, 0, none⟩)] w fun x w' => x = .returned (.int .i64 (createK nm D).1) ∧ ∃ t', Goes d w t D w' t' (createK nm D).2 := by
  have hsz := h.lsize
  obtain ⟨c0, c1, c2, c3, c4, c5, c6, c7, c8, c9, c10, c11⟩ := h.disk.cells
  by_cases hfull : D.limit ≤ (D.files.length : Int)
  · have e : createK nm D = (9, D) := by simp [createK, hfull]
    rw [e]
    refine (create1_full d xd xn f w D.limit t.L t.eL t.cL c2 c1 h.hL.blk hxd (by rw [hsz]; exact hfull)).mono ?_
    rintro x w' ⟨rfl, hb⟩
    exact ⟨rfl, t, Goes.still h hb⟩
  · have e : createK nm D = (0, { D with made := D.made + 1, files := D.files ++ [⟨D.made + 1, [], []⟩], turns := D.turns ++ [(⟨#[]⟩, nm, D.made + 1)] }) := by simp [createK, hfull]
    rw [e]
    have hnm : lo nm D.names = none := dlook_none hW hl
    have hno : ∀ g ∈ D.files, g.no ≠ D.made + 1 := fun g hg e => by have := (hW.rng g hg).2; omega
    have hffn : ff (D.made + 1) D.files = none := by
      cases e : ff (D.made + 1) D.files with
      | none => rfl
      | some g => exact absurd (ff_mem e).2 (hno g (ff_mem e).1)
    have hem : lo (⟨#[]⟩ : ByteArray) D.names = none := lo_none.2 fun x hx e => nm_ne_empty (hW.nam.ok x hx) e
    have k1 : lo (D.made + 1) t.kl = none := by rw [h.lkeys, hffn]; rfl
    have k2 : lo (⟨#[]⟩ : ByteArray) t.kn = none := by rw [h.nkeys, hem]; rfl
    have k3 : lo nm t.kn = none := by rw [h.nkeys, hnm]; rfl
    have f1 := (h.hL.findn (D.made + 1)).1 k1
    have f2 := (h.hN.findn ⟨#[]⟩).1 k2
    have f3 := (h.hN.findn nm).1 k3
    have hm := hW.made
    have ht := hW.tur
    refine (create1_any 0 d xd xn f nm w D.room D.limit t.L D.made t.N (.map (some t.F)) t.vn D.off D.st t.k1 D.rd t.k2 t.eL t.eN t.cL t.cN D.turns.length (encT D.turns) h.disk h.hL.blk h.hN.blk h.ln (Nat.zero_le _) h.nam (by omega) hxd hxn hd1 hd2 (by rw [hsz]; omega) (by omega) (by omega) (by have := nm_size hok; omega) (nm_ne hok) f1 f2 f3).mono ?_
    rintro x w' ⟨rfl, p, vs, vd, vf, vn', hp, hfile, hD', hL', hN', hv', hk, hvo⟩
    obtain ⟨ft', hF, hB⟩ := fil_new (bs := []) hfile hp (D.made + 1)
    obtain ⟨a1, a2, a3, a4, a5, a6, a7⟩ := h.apart
    have vnF : t.vn.ownBlock ≠ some t.F := fun e => by
      obtain ⟨cs, a⟩ := owns_block h.nam _ e
      exact hp_ne h.hF.blk a (by simp) rfl
    have vnk1 : ∀ b, t.k1 = .map (some b) → t.vn.ownBlock ≠ some b := fun b e e' => by
      obtain ⟨cs, a⟩ := owns_block h.nam _ e'
      obtain ⟨es, c, a'⟩ := (show KF w (.map (some b)) D.fs from e ▸ h.kf1).blk
      exact hp_ne a a' (by simp) rfl
    have vnk2 : ∀ b, t.k2 = .map (some b) → t.vn.ownBlock ≠ some b := fun b e e' => by
      obtain ⟨cs, a⟩ := owns_block h.nam _ e'
      obtain ⟨es, c, a'⟩ := (show KF w (.map (some b)) D.fr from e ▸ h.kf2).blk
      exact hp_ne a a' (by simp) rfl
    have oldf : ∀ g ∈ D.files, (if g.no = D.made + 1 then ft' else t.ft g.no) = t.ft g.no := fun g hg => if_neg (hno g hg)
    have oldp : ∀ g ∈ D.files, (if g.no = D.made + 1 then p else t.pt g.no) = t.pt g.no := fun g hg => if_neg (hno g hg)
    have hlt : ∀ g ∈ D.files, ∀ k, t.ft g.no k → k < w.heap.size := fun g hg k e => (h.fil g hg).lt k e
    refine ⟨rfl, { t with vn := vn', kl := t.kl ++ [(D.made + 1, .pointer (some ⟨p, 0, none⟩))], eL := _, cL := t.cL + 1, kn := t.kn ++ [(nm, .int .i64 (D.made + 1))], eN := _, cN := t.cN + 1, ft := fun m => if m = D.made + 1 then ft' else t.ft m, pt := fun m => if m = D.made + 1 then p else t.pt m }, ⟨⟨hD', h.hL.push (D.made + 1) _ (by rw [lo_lookup]; exact k1) hL', h.hN.push nm _ (by rw [lo_lookup]; exact k3) hN', h.hF.kept hk ?_, ?_, ?_, h.pf, h.ln, h.lf, h.nf, ?_, ?_, ?_, h.kf1.keptOf hk ?_, h.kf2.keptOf hk ?_, h.kd⟩, hk.mono ?_, ?_⟩⟩
    · rintro (e | e | e | e)
      · exact a3 e.symm
      · exact h.lf e.symm
      · exact h.nf e.symm
      · exact vnF e
    · show (t.kl ++ [(D.made + 1, _)]).Perm (encL (fun m => if m = D.made + 1 then p else t.pt m) (D.files ++ [(⟨D.made + 1, [], []⟩ : Fi)]))
      have e1 : encL (fun m => if m = D.made + 1 then p else t.pt m) (D.files ++ [(⟨D.made + 1, [], []⟩ : Fi)]) = encL t.pt D.files ++ [(D.made + 1, .pointer (some ⟨p, 0, none⟩))] := by
        unfold encL
        rw [List.map_append]
        congr 1
        · exact List.map_congr_left fun g hg => by dsimp only; rw [oldp g hg]
        · simp
      rw [e1]
      exact h.pl.append_right _
    · show (t.kn ++ [(nm, Value.int .i64 (D.made + 1))]).Perm (encN ((D.turns ++ [((⟨#[]⟩ : ByteArray), nm, D.made + 1)]).foldl doT D.safeN))
      rw [List.foldl_append, List.foldl_cons, List.foldl_nil]
      have e1 : doT (D.turns.foldl doT D.safeN) (⟨#[]⟩, nm, D.made + 1) = D.names ++ [(nm, D.made + 1)] := by
        show (if nm.toList.isEmpty = true then _ else setA nm (D.made + 1) (delA ⟨#[]⟩ D.names)) = _
        rw [if_neg (by rw [nm_ne hok]; simp)]
        unfold setA
        rw [delA_none (lo_none.1 hem), delA_none (lo_none.1 hnm)]
      rw [e1, show encN (D.names ++ [(nm, D.made + 1)]) = encN D.names ++ [(nm, .int .i64 (D.made + 1))] by simp [encN]]
      exact h.pn.append_right _
    · intro g hg
      show Fil w' (if g.no = D.made + 1 then ft' else t.ft g.no) (if g.no = D.made + 1 then p else t.pt g.no) g
      rcases List.mem_append.1 hg with hg | hg
      · rw [oldf g hg, oldp g hg]
        refine (h.fil g hg).kept hk ?_
        intro k e
        obtain ⟨b1, b2, b3, b4, b5, b6, b7⟩ := h.fapart hg e
        rintro (e | e | e | e)
        · exact b1 e
        · exact b2 e
        · exact b3 e
        · exact b5 e
      · rw [List.mem_singleton] at hg
        subst hg
        rw [if_pos rfl, if_pos rfl]
        exact hF
    · intro g hg g' hg' hne k
      show (if g.no = D.made + 1 then ft' else t.ft g.no) k → ¬ (if g'.no = D.made + 1 then ft' else t.ft g'.no) k
      rcases List.mem_append.1 hg with hg | hg <;> rcases List.mem_append.1 hg' with hg' | hg'
      · rw [oldf g hg, oldf g' hg']
        exact h.dis g hg g' hg' hne k
      · rw [List.mem_singleton] at hg'
        subst hg'
        rw [oldf g hg, if_pos rfl]
        intro e e'
        have := hlt g hg k e
        have := hB k e'
        omega
      · rw [List.mem_singleton] at hg
        subst hg
        rw [oldf g' hg', if_pos rfl]
        intro e e'
        have := hlt g' hg' k e'
        have := hB k e
        omega
      · rw [List.mem_singleton] at hg hg'
        subst hg hg'
        exact absurd rfl hne
    · show w'.ownsRow 0 121 3 vn' (D.turns ++ [((⟨#[]⟩ : ByteArray), nm, D.made + 1)]).length (encT (D.turns ++ [((⟨#[]⟩ : ByteArray), nm, D.made + 1)]))
      rw [encT_snoc, List.length_append]
      exact hv'
    · rintro b e (e' | e' | e' | e')
      · subst e'; exact a5 e
      · exact (h.kd b (.inl e)).1 e'
      · exact (h.kd b (.inl e)).2.1 e'
      · exact vnk1 b e e'
    · rintro b e (e' | e' | e' | e')
      · subst e'; exact a6 e
      · exact (h.kd b (.inr e)).1 e'
      · exact (h.kd b (.inr e)).2.1 e'
      · exact vnk2 b e e'
    · rintro k _ (e | e | e | e)
      · exact .inl e
      · exact .inr (.inl e)
      · exact .inr (.inr (.inl e))
      · exact .inr (.inr (.inr (.inr (.inl e))))
    · rintro k (e | e | e | e | e | e | e | ⟨g, hg, e⟩)
      · exact .inl (.inl e)
      · exact .inl (.inr (.inl e))
      · exact .inl (.inr (.inr (.inl e)))
      · exact .inl (.inr (.inr (.inr (.inl e))))
      · rcases hvo with e2 | ⟨j, e2, e3⟩
        · exact .inl (.inr (.inr (.inr (.inr (.inl (e2.symm.trans e))))))
        · have : some j = some k := e3.symm.trans e
          injection this with this
          exact .inr (by omega)
      · exact .inl (.inr (.inr (.inr (.inr (.inr (.inl e))))))
      · exact .inl (.inr (.inr (.inr (.inr (.inr (.inr (.inl e)))))))
      · replace e : (if g.no = D.made + 1 then ft' else t.ft g.no) k := e
        rcases List.mem_append.1 hg with hg | hg
        · rw [oldf g hg] at e
          exact .inl (.inr (.inr (.inr (.inr (.inr (.inr (.inr ⟨g, hg, e⟩)))))))
        · rw [List.mem_singleton] at hg
          subst hg
          rw [if_pos rfl] at e
          exact .inr (hB k e)

theorem WD.cntS (h : WD n D) : WD (n + 1) (cntS D) :=
  ⟨h.room, h.lim, ⟨h.made.1, by have := h.made.2; simp only [Go.Proofs.YtlmompdfombgeaaGreat.cntS]; omega⟩, h.asc, h.rng, h.cnt, h.hld, h.saf, by have := h.tur; simp only [Go.Proofs.YtlmompdfombgeaaGreat.cntS]; omega, fun f hf => ⟨by have := (h.chg f hf).1; omega, (h.chg f hf).2⟩, by have := h.st; simp only [Go.Proofs.YtlmompdfombgeaaGreat.cntS]; omega, by have := h.rd; simp only [Go.Proofs.YtlmompdfombgeaaGreat.cntS]; omega⟩

def createP (D : Dq) (nm : ByteArray) : Int × Dq := strokeP D (pre1 D nm true 0) (createK nm)

set_option maxRecDepth 100000 in
set_option maxHeartbeats 1000000 in
theorem create_dk (h : DkT w d t D) (hW : WD n D) (hn : n ≤ 100000) (nm : ByteArray) (hs : nm.size ≤ maxLen) :
    Calls Tryz.prog 20 #[.pointer (some ⟨d, 0, none⟩), .string nm] w fun x w' => x = .returned (.int .i64 (createP D nm).1) ∧ ∃ t', Goes d w t D w' t' (createP D nm).2 := by
  have hmf : ∀ (fn : Fn) (first cap : Array Value) (w : World), (Instr.makeFunc fn first cap).run Tryz.prog w = .ok (.func fn first cap) w := fun _ _ _ _ => rfl
  have hdl := hp_lt h.disk
  have hcall : Calls Tryz.prog 76 #[.pointer (some ⟨d, 0, none⟩), .agg #[.slice (some ⟨w.heap.size + 1 + 1, 0, none⟩) 1 1, .bool true, .int .i64 0], .func (.func 77) #[] #[.pointer (some ⟨w.heap.size, 0, none⟩), .pointer (some ⟨w.heap.size + 1, 0, none⟩)]]
      (((w.alloc (.cells #[.pointer (some ⟨d, 0, none⟩)] 22)).alloc (.cells #[.string nm] 9)).alloc (.cells #[.string nm] 9)) fun x w3 => x = .returned (.int .i64 (createP D nm).1) ∧ ∃ t', Goes d w t D w3 t' (createP D nm).2 := by
    have hb0 : Below w.heap.size w (((w.alloc (.cells #[.pointer (some ⟨d, 0, none⟩)] 22)).alloc (.cells #[.string nm] 9)).alloc (.cells #[.string nm] 9)) := (((Below.refl _ _).alloc (Nat.le_refl _) _).alloc (by simp) _).alloc (by simp; omega) _
    have g0 : (((w.alloc (.cells #[.pointer (some ⟨d, 0, none⟩)] 22)).alloc (.cells #[.string nm] 9)).alloc (.cells #[.string nm] 9)).cell? ⟨w.heap.size, 0, none⟩ = some (.pointer (some ⟨d, 0, none⟩)) := by simp [go_sem]
    have g1 : (((w.alloc (.cells #[.pointer (some ⟨d, 0, none⟩)] 22)).alloc (.cells #[.string nm] 9)).alloc (.cells #[.string nm] 9)).cell? ⟨w.heap.size + 1, 0, none⟩ = some (.string nm) := by simp [go_sem]
    have g2 : (((w.alloc (.cells #[.pointer (some ⟨d, 0, none⟩)] 22)).alloc (.cells #[.string nm] 9)).alloc (.cells #[.string nm] 9)).cell? ⟨w.heap.size + 1 + 1, 0, none⟩ = some (.string nm) := by simp [go_sem]
    obtain ⟨W, hW'⟩ : ∃ W, W = (((w.alloc (.cells #[.pointer (some ⟨d, 0, none⟩)] 22)).alloc (.cells #[.string nm] 9)).alloc (.cells #[.string nm] 9)) := ⟨_, rfl⟩
    rw [← hW'] at hb0 g0 g1 g2 ⊢
    clear hW'
    have hZ := h.below hb0
    refine (stroke_dk hZ hW (by omega) _ _ _ _ (pre1 D nm true 0) rfl rfl rfl (fun w1 hb => find1_dk (hZ.below hb) hW _ nm true 0 ((hb.cell (World.block_lt_of_cell? _ _ g2)).trans g2) hs (fun _ => rfl)) pre1_off 77 _ (enters_of Tryz.func77 (by kernel_rfl) rfl) (createK nm) ?_).mono ?_
    · intro e0 _ w2 hd2 hk2
      obtain ⟨hok, hl, _⟩ := pre1_look e0
      refine createC_dk hd2 hW.cntS (by omega) _ _ _ nm hok (hl rfl) (hk2.cell g0 (fun e => by simp at e; omega)) (hk2.cell g1 (fun e => by simp at e; omega)) (by omega) (by omega)
    · rintro x w3 ⟨rfl, t', hg⟩
      exact ⟨rfl, t', (Goes.still h hb0).trans hg⟩
  have HC := hid hcall
  clear h hcall
  go_enter Tryz.func20, Tryz.ntmps20
  go_wp2_with (
    go_at_call 76
    refine HC.out.mono ?_
    rintro e w3 ⟨rfl, hx⟩
    have HX := hid hx
    clear hx)
  go_ret
  exact ⟨rfl, HX.out⟩

end
end Go.Proofs.YtlmompdfombgeaaGreat
