import Derived.Test.YtlmompdfombgeabK22
namespace Go.Proofs.Ytlmompdfombgeab
open Go.RowKit Go.MapKept

/-- The name of the one file. -/
abbrev nmF : ByteArray := { data := #[102] }

/-- A disk with the one file, its name not safe yet. -/
def preD (safe : List Int) (cs : List Chg) (st : Int) : Dq := ⟨4194304, 1, 1, [⟨1, safe, cs⟩], [], [(⟨#[]⟩, nmF, 1)], false, st, [], 0, []⟩
/-- A disk with the one file, its name safe. -/
def oneD (safe : List Int) (cs : List Chg) (st : Int) : Dq := ⟨4194304, 1, 1, [⟨1, safe, cs⟩], [(nmF, 1)], [], false, st, [], 0, []⟩

theorem nmF_ok : nmOK nmF = true := by decide
theorem nmF_ne : nmF.toList.isEmpty = false := by kernel_rfl
theorem fo_nil (n : Int) : fo [] n = 0 := rfl
theorem fe_zero : fe 0 = 0 := by decide

theorem pre_names (safe : List Int) (cs : List Chg) (st : Int) : (preD safe cs st).names = [(nmF, 1)] := by
  simp [Dq.names, preD, doT, delA, setA]
theorem one_names (safe : List Int) (cs : List Chg) (st : Int) : (oneD safe cs st).names = [(nmF, 1)] := rfl
theorem pre_look (safe : List Int) (cs : List Chg) (st : Int) : (preD safe cs st).look nmF = some ⟨1, safe, cs⟩ := by
  unfold Dq.look
  rw [pre_names]
  simp [lo, ff, preD]
theorem one_look (safe : List Int) (cs : List Chg) (st : Int) : (oneD safe cs st).look nmF = some ⟨1, safe, cs⟩ := by
  unfold Dq.look
  rw [one_names]
  simp [lo, ff, oneD]

theorem pre_cnt (safe : List Int) (cs : List Chg) (st : Int) : cntS (preD safe cs st) = preD safe cs (st + 1) := by simp [cntS, preD, fo_nil]
theorem one_cnt (safe : List Int) (cs : List Chg) (st : Int) : cntS (oneD safe cs st) = oneD safe cs (st + 1) := by simp [cntS, oneD, fo_nil]

theorem stroke_pre (safe : List Int) (cs : List Chg) (st : Int) (k : Dq → Int × Dq) : strokeP (preD safe cs st) 0 k = k (preD safe cs (st + 1)) := by
  unfold strokeP
  rw [if_neg (by simp), show (preD safe cs st).fs = [] from rfl, fo_nil, fe_zero, if_neg (by simp), pre_cnt]
theorem stroke_one (safe : List Int) (cs : List Chg) (st : Int) (k : Dq → Int × Dq) : strokeP (oneD safe cs st) 0 k = k (oneD safe cs (st + 1)) := by
  unfold strokeP
  rw [if_neg (by simp), show (oneD safe cs st).fs = [] from rfl, fo_nil, fe_zero, if_neg (by simp), one_cnt]

theorem pre_pre1 (safe : List Int) (cs : List Chg) (st : Int) : pre1 (preD safe cs st) nmF false 0 = 0 := by
  unfold pre1
  rw [pre_look, nmF_ok]
  simp [preD]
theorem one_pre1 (safe : List Int) (cs : List Chg) (st : Int) (sz : Int) (h0 : 0 ≤ sz) (h1 : sz ≤ ((rowC safe cs).1.length : Int)) : pre1 (oneD safe cs st) nmF false sz = 0 := by
  unfold pre1
  rw [one_look, nmF_ok]
  simp [oneD, Fi.row]
  omega

/-- A file made. -/
theorem create_torn : createP (newD 4194304 1) nmF = (0, preD [] [] 1) := by
  have hl : (newD 4194304 1).look nmF = none := by simp [Dq.look, Dq.names, newD, lo]
  have hp : pre1 (newD 4194304 1) nmF true 0 = 0 := by
    unfold pre1
    rw [hl, nmF_ok]
    simp [newD]
  unfold createP
  rw [hp]
  unfold strokeP
  rw [if_neg (by simp), show (newD 4194304 1).fs = [] from rfl, fo_nil, fe_zero, if_neg (by simp)]
  simp [createK, cntS, newD, preD, fo_nil]

/-- What is added to a list of changes. -/
def addC (cs : List Chg) (ys : List Int) : List Chg := if ys.length = 0 then cs else cs ++ [.inl ys]

theorem appK_of (D : Dq) (f : Fi) (ys : List Int) (hl : D.look nmF = some f) (hf : D.files = [f]) (hr : D.room = 4194304) (hp : (f.peak : Int) ≤ 4194304) (hs : (f.row.1.length : Int) + ys.length ≤ 4194304) :
    appK nmF ys D = (0, { D with files := [{ f with cs := addC f.cs ys }] }) := by
  unfold appK
  rw [hl]
  dsimp only
  have hh : heldD D = f.peak := by simp [heldD, hf]
  rw [hh, if_neg (by omega)]
  by_cases h0 : ys.length = 0
  · rw [if_pos h0, show ({ f with cs := addC f.cs ys } : Fi) = f by simp [addC, h0], ← hf]
  · rw [if_neg h0]
    simp [addC, h0, hf, setF]

theorem app_pre (base : List Int) (h : base.length ≤ 200000) : appP (preD [] [] 1) nmF base = (0, preD [] (addC [] base) 2) := by
  unfold appP
  rw [pre_pre1, stroke_pre, appK_of _ ⟨1, [], []⟩ base (pre_look _ _ _) rfl rfl (by decide) (by simp [Fi.row, rowC]; omega)]
  rfl

theorem app_one (safe : List Int) (cs : List Chg) (st : Int) (ys : List Int) (hp : peakC safe cs + ys.length ≤ 200000) : appP (oneD safe cs st) nmF ys = (0, oneD safe (addC cs ys) (st + 1)) := by
  have h1 := row_le_peak safe cs
  unfold appP
  rw [one_pre1 _ _ _ 0 (Int.le_refl _) (by omega), stroke_one, appK_of _ ⟨1, safe, cs⟩ ys (one_look _ _ _) rfl rfl (by simp [Fi.peak]; omega) (by simp [Fi.row]; omega)]
  rfl

theorem row_add_nil (base : List Int) : (rowC [] (addC [] base)).1 = base := by
  unfold addC
  split
  · rename_i h
    rw [List.eq_nil_of_length_eq_zero h]
    rfl
  · simp [rowC, doC]

theorem sync_torn (base : List Int) : syncP (preD [] (addC [] base) 2) nmF = (0, preD base [] 3) := by
  unfold syncP
  rw [pre_pre1, stroke_pre]
  unfold syncK
  rw [pre_look]
  dsimp only
  rw [show (Fi.row ⟨1, [], addC [] base⟩).1 = base from row_add_nil base]
  simp [preD, setF]

theorem syncN_torn (base : List Int) : syncNP (preD base [] 3) = (0, oneD base [] 4) := by
  unfold syncNP
  rw [show pre0 (preD base [] 3) = 0 from rfl, stroke_pre]
  unfold syncNK
  rw [pre_names]
  simp [settleD, preD, oneD, liveF]

/-- What a cut adds to a list of changes. -/
def cutC (safe : List Int) (cs : List Chg) (k : Nat) : List Chg := if k < (rowC safe cs).1.length then cs ++ [.inr k] else cs

theorem cut_one (safe : List Int) (cs : List Chg) (st : Int) (k : Nat) (hk : k ≤ (rowC safe cs).1.length) : cutP (oneD safe cs st) nmF k = (0, oneD safe (cutC safe cs k) (st + 1)) := by
  unfold cutP
  rw [one_pre1 _ _ _ k (by omega) (by omega), stroke_one]
  unfold cutK
  rw [one_look]
  dsimp only
  by_cases h : k < (rowC safe cs).1.length
  · rw [if_pos (show (k : Int) < ((Fi.row ⟨1, safe, cs⟩).1.length : Int) by simp [Fi.row]; omega)]
    simp [oneD, setF, cutC, h]
  · rw [if_neg (show ¬ (k : Int) < ((Fi.row ⟨1, safe, cs⟩).1.length : Int) by simp [Fi.row]; omega)]
    simp [cutC, h]

theorem skN_one : skN [(nmF, 1)] = [nmF] := by
  unfold skN sk encN
  kernel_rfl

theorem crash_torn (safe : List Int) (cs : List Chg) (st done : Int) (lost : List Int) :
    crashP 0 [(done, lost)] (oneD safe cs st) = ([(nmF, (wholeF done ⟨1, safe, cs⟩).1)], oneD (loseAll (wholeF done ⟨1, safe, cs⟩).2 lost (wholeF done ⟨1, safe, cs⟩).1) [] 0) := by
  have hn : crashNm 0 (oneD safe cs st) = [(nmF, 1)] := by simp [crashNm, Dq.namesAt, oneD]
  have hw : wholeN [(done, lost)] (oneD safe cs st) 1 = (wholeF done ⟨1, safe, cs⟩).1 := wholeN_at [(done, lost)] (oneD safe cs st) (by simp [oneD]) 0 ⟨1, safe, cs⟩ rfl
  unfold crashP
  rw [hn]
  refine Prod.ext ?_ ?_
  · show toldN [(nmF, 1)] _ = _
    unfold toldN
    rw [skN_one]
    simp only [List.map_cons, List.map_nil]
    rw [show (lo nmF [(nmF, (1 : Int))]).getD 0 = 1 by simp [lo], hw]
  · simp [settleD, crashD, crashTo, oneD, liveF, crashF, pkAt]

theorem read_torn (safe : List Int) (st : Int) : (readP (oneD safe [] st) nmF).1 = safe ∧ (readP (oneD safe [] st) nmF).2.1 = 0 := by
  unfold readP
  rw [one_pre1 _ _ _ 0 (Int.le_refl _) (by omega), if_neg (by simp), show (oneD safe [] st).fr = [] from rfl, fo_nil, fe_zero, if_neg (by simp), one_look]
  exact ⟨rfl, rfl⟩

/-- A sector lost: place by place. -/
theorem loseS_get (fs : List Bool) (xs : List Int) (s i : Nat) (x : Int) (h : xs[i]? = some x) : (loseS fs xs s)[i]? = some (if fs[i]? = some true ∧ s = i / 16 then 0 else x) := by
  have hi : i < xs.length := (List.getElem?_eq_some_iff.1 h).1
  unfold loseS loseTo
  rw [List.getElem?_mapIdx, h]
  simp only [Option.map_some, Option.some.injEq]
  by_cases hf : fs[i]? = some true
  · by_cases hs : s = i / 16
    · rw [if_pos (show _ ∧ _ ∧ _ from ⟨by omega, by omega, hf⟩), if_pos (show _ ∧ _ from ⟨hf, hs⟩)]
    · rw [if_neg (fun h => hs (by omega)), if_neg (fun h => hs h.2)]
  · rw [if_neg (fun h => hf h.2.2), if_neg (fun h => hf h.1)]

/-- Is a place in a sector that is lost? -/
def lostAt (n : Nat) (lost : List Int) (i : Nat) : Prop := ∃ v ∈ lost, (v % (secs n : Int)).toNat = i / 16

theorem loseAll_get (fs : List Bool) (i : Nat) : ∀ (lost : List Int) (xs : List Int) (x : Int), xs[i]? = some x → ∃ y, (loseAll fs lost xs)[i]? = some y ∧ (fs[i]? = some true ∧ lostAt xs.length lost i → y = 0) ∧ (¬ (fs[i]? = some true ∧ lostAt xs.length lost i) → y = x)
  | [], xs, x, h => ⟨x, h, fun ⟨_, v, hv, _⟩ => (by cases hv), fun _ => rfl⟩
  | v :: l, xs, x, h => by
    obtain ⟨y, h1, h2, h3⟩ := loseAll_get fs i l (loseS fs xs (v % (secs xs.length : Int)).toNat) _ (loseS_get fs xs _ i x h)
    rw [loseS_len] at h2 h3
    refine ⟨y, h1, ?_, ?_⟩
    · rintro ⟨hf, u, hu, he⟩
      by_cases hl : lostAt xs.length l i
      · exact h2 ⟨hf, hl⟩
      · rcases List.mem_cons.1 hu with rfl | hu
        · rw [h3 (fun h => hl h.2), if_pos ⟨hf, he⟩]
        · exact absurd ⟨u, hu, he⟩ hl
    · intro hn
      rw [h3 (fun ⟨hf, u, hu, he⟩ => hn ⟨hf, u, List.mem_cons_of_mem _ hu, he⟩), if_neg (fun ⟨hf, he⟩ => hn ⟨hf, v, List.mem_cons_self, he⟩)]

theorem row_add (safe : List Int) (cs : List Chg) (ys : List Int) (h : ys.length ≠ 0) : rowC safe (addC cs ys) = ((rowC safe cs).1 ++ ys, (rowC safe cs).2 ++ List.replicate ys.length true) := by
  unfold addC
  rw [if_neg h, rowC_snoc]
  rfl

theorem row_cut (safe : List Int) (cs : List Chg) (k : Nat) (h : k < (rowC safe cs).1.length) : rowC safe (cutC safe cs k) = ((rowC safe cs).1.take k, (rowC safe cs).2.take k) := by
  unfold cutC
  rw [if_pos h, rowC_snoc]
  rfl

theorem peak_add (safe : List Int) (cs : List Chg) (ys : List Int) : peakC safe (addC cs ys) ≤ peakC safe cs + ys.length := by
  by_cases h : ys.length = 0
  · rw [addC, if_pos h]; omega
  · have e := row_add safe cs ys h
    have h1 := row_le_peak safe cs
    rw [addC, if_neg h] at e ⊢
    rw [peakC_snoc, e]
    simp
    omega

theorem peak_cut (safe : List Int) (cs : List Chg) (k : Nat) : peakC safe (cutC safe cs k) = peakC safe cs := by
  by_cases h : k < (rowC safe cs).1.length
  · have e := row_cut safe cs k h
    have h1 := row_le_peak safe cs
    rw [cutC, if_pos h] at e ⊢
    rw [peakC_snoc, e]
    simp
    omega
  · rw [cutC, if_neg h]

/-- The rows behind each of the changes. -/
def rowsC (safe : List Int) (cs : List Chg) : List (List Int × List Bool) := (List.range (cs.length + 1)).map fun j => rowC safe (cs.take j)

theorem rowsC_len (safe : List Int) (cs : List Chg) : (rowsC safe cs).length = cs.length + 1 := by simp [rowsC]
theorem rowsC_get (safe : List Int) (cs : List Chg) (j : Nat) (h : j ≤ cs.length) : (rowsC safe cs)[j]? = some (rowC safe (cs.take j)) := by
  unfold rowsC
  rw [List.getElem?_map, List.getElem?_range (by omega)]
  rfl
theorem rowsC_snoc (safe : List Int) (cs : List Chg) (c : Chg) : rowsC safe (cs ++ [c]) = rowsC safe cs ++ [rowC safe (cs ++ [c])] := by
  unfold rowsC
  rw [show (cs ++ [c]).length + 1 = (cs.length + 1) + 1 by simp, List.range_succ, List.map_append]
  congr 1
  · refine List.map_congr_left fun j hj => ?_
    have := List.mem_range.1 hj
    rw [List.take_append_of_le_length (by omega)]
  · simp only [List.map_cons, List.map_nil]
    rw [List.take_of_length_le (by simp)]

end Go.Proofs.Ytlmompdfombgeab

namespace Go.Proofs.Ytlmompdfombgeab
open Go.RowKit Go.MapKept

def cellR (x : Int × Bool) : List Value := [.int .u8 x.1, .bool x.2]
/-- The cells of a row. -/
def cellsR (r : List Int × List Bool) : List Value := (r.1.zip r.2).flatMap cellR

theorem cellR_len (x : Int × Bool) : (cellR x).length = 2 := rfl
theorem cellR_one (x : Int × Bool) : ∀ u ∈ cellR x, u.oneCell' = true := by intro u hu; simp [cellR] at hu; rcases hu with rfl | rfl <;> rfl
theorem cellsR_one (r : List Int × List Bool) : ∀ u ∈ cellsR r, u.oneCell' = true := by
  intro u hu
  obtain ⟨x, _, hx⟩ := List.mem_flatMap.1 hu
  exact cellR_one x u hx

/-- A block of a row or of rows is none of the disk's. -/
theorem DkT.notRow {w : World} {d : Nat} {t : Wt} {D : Dq} (h : DkT w d t D) {k : Nat} {cur : Array Value} {e : TypeId} (he : e = 34 ∨ e = 35 ∨ e = 37 ∨ e = 27) (hk : w.heap[k]? = some (.cells cur e (0, 0))) : ¬ Dft d t D k := by
  have map : ∀ {b : Nat} {es : Array MapEntry} {c : Nat}, w.heap[b]? = some (.map es c) → k ≠ b := by
    rintro b es c hb rfl
    rw [hk] at hb
    cases hb
  rintro (rfl | rfl | rfl | rfl | hv | hv | hv | ⟨f, hf, hv⟩)
  · have := h.disk
    unfold DiskB at this
    rw [hk] at this
    injection this with this
    injection this with _ this
    subst this
    exact absurd he (by decide)
  · exact map h.hL.blk rfl
  · exact map h.hN.blk rfl
  · exact map h.hF.blk rfl
  · rcases h.nam.2 with ⟨e0, _⟩ | ⟨g, cap, c2, e0, _, hg, _⟩
    · rw [e0] at hv; cases hv
    · rw [e0] at hv
      simp [Value.ownBlock] at hv
      subst hv
      rw [hk] at hg
      injection hg with hg
      injection hg with _ hg
      subst hg
      exact absurd he (by decide)
  · have h1 := h.kf1
    rw [hv] at h1
    obtain ⟨es, c, hb⟩ := h1.blk
    exact map hb rfl
  · have h1 := h.kf2
    rw [hv] at h1
    obtain ⟨es, c, hb⟩ := h1.blk
    exact map hb rfl
  · obtain ⟨cs, ty, hb, hty⟩ := (h.fil f hf).typed k hv
    rw [hk] at hb
    injection hb with hb
    injection hb with _ hb
    subst hb
    rcases hty with rfl | rfl | rfl | rfl <;> exact absurd he (by decide)

/-- Rows in the heap: their headers, and each one. -/
structure Rws (w : World) (B : Nat) (hv : Value) (vs : List Value) (R : List (List Int × List Bool)) : Prop where
  hd : w.ownsRow B 35 1 hv R.length vs
  el : ∀ (j : Nat) (v : Value) (r : List Int × List Bool), vs[j]? = some v → R[j]? = some r → w.ownsRow B 37 2 v r.1.length (cellsR r)

/-- The block of an owned row bears its type. -/
theorem owns_typed {w : World} {B : Nat} {e : TypeId} {m : Nat} {v : Value} {n : Nat} {xs : List Value} (h : w.ownsRow B e m v n xs) {k : Nat} (hk : v.ownBlock = some k) : ∃ cur, w.heap[k]? = some (.cells cur e (0, 0)) := by
  rcases h.2 with ⟨e0, _⟩ | ⟨g, cap, c2, e0, _, hg, _⟩
  · rw [e0] at hk; cases hk
  · rw [e0] at hk
    simp [Value.ownBlock] at hk
    subst hk
    exact ⟨_, hg⟩

theorem Rws.kept {w w' : World} {B : Nat} {hv : Value} {vs : List Value} {R : List (List Int × List Bool)} {S : Nat → Prop} (h : Rws w B hv vs R) (hk : Kept S w w')
    (hS : ∀ k cur e, (e = 34 ∨ e = 35 ∨ e = 37 ∨ e = 27) → w.heap[k]? = some (.cells cur e (0, 0)) → ¬ S k) : Rws w' B hv vs R :=
  ⟨ownsRow_kept h.hd hk fun k e => by obtain ⟨cur, hc⟩ := owns_typed h.hd e; exact hS k cur _ (by decide) hc,
   fun j v r hj hr => ownsRow_kept (h.el j v r hj hr) hk fun k e => by obtain ⟨cur, hc⟩ := owns_typed (h.el j v r hj hr) e; exact hS k cur _ (by decide) hc⟩

theorem Rws.below {w w' : World} {B : Nat} {hv : Value} {vs : List Value} {R : List (List Int × List Bool)} (h : Rws w B hv vs R) (hk : Below w.heap.size w w') : Rws w' B hv vs R :=
  h.kept (Kept.ofBelow hk) (fun _ _ _ _ _ e => e)

theorem Rws.goes {w w' : World} {B : Nat} {hv : Value} {vs : List Value} {R : List (List Int × List Bool)} {d : Nat} {t t' : Wt} {D D' : Dq} (h : Rws w B hv vs R) (hd : DkT w d t D) (hg : Goes d w t D w' t' D') : Rws w' B hv vs R :=
  h.kept hg.kp (fun _ _ _ he hc => hd.notRow he hc)

theorem rws_nil (w : World) (B : Nat) : Rws w B (.slice none 0 0) [] [] := ⟨owns_nil _ _ _ _, fun j v r hj _ => by simp at hj⟩

/-- The header at a place. -/
theorem Rws.at_ {w : World} {B : Nat} {hv : Value} {vs : List Value} {R : List (List Int × List Bool)} (h : Rws w B hv vs R) {j : Nat} {r : List Int × List Bool} (hj : R[j]? = some r) :
    ∃ v, vs[j]? = some v ∧ w.ownsRow B 37 2 v r.1.length (cellsR r) ∧ ∃ b cap, hv = .slice (some ⟨b, 0, none⟩) R.length cap ∧ R.length ≤ cap ∧ cap ≤ maxLen ∧ w.cell? ⟨b, j, none⟩ = some v ∧ ∃ ao c, v = .slice ao r.1.length c := by
  have hl : vs.length = R.length := by have := h.hd.1; simpa using this
  have hjl : j < R.length := (List.getElem?_eq_some_iff.1 hj).1
  obtain ⟨v, hv1⟩ : ∃ v, vs[j]? = some v := ⟨_, List.getElem?_eq_getElem (by omega)⟩
  have hr := h.el j v r hv1 hj
  obtain ⟨ao, c, hvs⟩ := own_shape hr
  have h1 : ∀ u ∈ vs, u.oneCell' = true := by
    intro u hu
    obtain ⟨i, hi, rfl⟩ := List.mem_iff_getElem.1 hu
    obtain ⟨a2, c2, e2⟩ := own_shape (h.el i _ (R[i]'(by omega)) (List.getElem?_eq_getElem hi) (List.getElem?_eq_getElem (by omega)))
    rw [e2]; rfl
  have hrf := rf_of_owns h.hd h1
  obtain ⟨b, off, cap, e, q1, q2, q3⟩ := hrf.lits (by omega) (by omega)
  have hoff : off = 0 := by
    rcases h.hd.2 with ⟨e0, _⟩ | ⟨g, cap2, cur, e0, _⟩
    · rw [e0] at e; cases e
    · rw [e0] at e
      injection e with e _ _
      injection e with e
      injection e with _ e
      exact e.symm
  subst hoff
  exact ⟨v, hv1, hr, b, cap, e, q1, q2, by simpa using q3 j v hv1, ao, c, hvs⟩

/-- A row more. -/
theorem Rws.push {w w' : World} {B : Nat} {hv : Value} {vs : List Value} {R : List (List Int × List Bool)} (h : Rws w B hv vs R) {v : Value} {r : List Int × List Bool} (hr : w.ownsRow B 37 2 v r.1.length (cellsR r)) {ao : Option Addr} {c : Nat} (hown : w'.ownsRow B 35 1 (.slice ao (R.length + 1) c) (R.length + 1) (vs ++ [v])) {o : Obj} (hg : (w.alloc o).grownBy w' hv.ownBlock) :
    Rws w' B (.slice ao (R.length + 1) c) (vs ++ [v]) (R ++ [r]) := by
  have hl : vs.length = R.length := by have := h.hd.1; simpa using this
  have hk : Kept (fun k => hv.ownBlock = some k) w w' := ((Kept.refl _ w).alloc o).grown hg (fun _ _ e => e)
  have hne : ∀ {u : Value} {x : List Int × List Bool}, w.ownsRow B 37 2 u x.1.length (cellsR x) → w'.ownsRow B 37 2 u x.1.length (cellsR x) := by
    intro u x hu
    refine ownsRow_kept hu hk fun k e e2 => ?_
    obtain ⟨c1, h1⟩ := owns_typed hu e
    obtain ⟨c2, h2⟩ := owns_typed h.hd e2
    rw [h1] at h2
    injection h2 with h2
    injection h2 with _ h2
    cases h2
  refine ⟨by simpa using hown, fun j u x hj hx => ?_⟩
  by_cases hjl : j < R.length
  · rw [List.getElem?_append_left (by omega)] at hj
    rw [List.getElem?_append_left hjl] at hx
    exact hne (h.el j u x hj hx)
  · rw [List.getElem?_append_right (by omega)] at hj hx
    have e : j - vs.length = 0 := by
      rcases Nat.eq_zero_or_pos (j - vs.length) with e | e
      · exact e
      · rw [List.getElem?_eq_none (by simp only [List.length_cons, List.length_nil]; omega)] at hj; cases hj
    rw [e] at hj
    rw [show j - R.length = 0 by omega] at hx
    simp at hj hx
    subst hj hx
    exact hne hr

/-- What the blocks of a row and the disk are behind a row's growth: only blocks from B on, of one's own, are written. -/
theorem own_below {a w w' : World} {v : Value} {e : TypeId} {m n : Nat} {xs : List Value} {o : Obj} (hb : Below a.heap.size a w) (h : w.ownsRow a.heap.size e m v n xs) (hg : (w.alloc o).grownBy w' v.ownBlock) : Below a.heap.size a w' :=
  (hb.alloc hb.size o).grown hg (by have := hb.size; simp; omega) (fun k hk => (h.lt k hk).1)

end Go.Proofs.Ytlmompdfombgeab

namespace Go.Proofs.Ytlmompdfombgeab
open Go.RowKit Go.MapKept

/-- A change, as an argument. -/
structure Cg where
  cut : Bool
  size : Int
  dv : Value
  data : List Int
instance : Inhabited Cg := ⟨⟨false, 0, .slice none 0 0, []⟩⟩
def Cg.ok (w : World) (x : Cg) : Prop := I64 x.size ∧ Rf w 1 x.dv x.data.length (x.data.flatMap fun y => [.int .u8 y]) ∧ (∀ y ∈ x.data, 0 ≤ y ∧ y < 256) ∧ x.dv.oneCell' = true
def ccs (x : Cg) : List Value := [.bool x.cut, .int .i64 x.size, x.dv]
def Cgs (w : World) (v : Value) (xs : List Cg) : Prop := Rf w 3 v xs.length (xs.flatMap ccs) ∧ ∀ x ∈ xs, x.ok w

theorem Cg.ok.below {w w' : World} {x : Cg} (h : x.ok w) (hk : Below w.heap.size w w') : x.ok w' := ⟨h.1, h.2.1.below hk, h.2.2⟩
theorem Cgs.below {w w' : World} {v : Value} {xs : List Cg} (h : Cgs w v xs) (hk : Below w.heap.size w w') : Cgs w' v xs := ⟨h.1.below hk, fun x hx => (h.2 x hx).below hk⟩

theorem Try.cells4 : Try.prog.cellsOf 4 = 1 := by kernel_rfl
theorem Try.cells27 : Try.prog.cellsOf 27 = 3 := by kernel_rfl

section
variable {H : Type} {enc : TypeId × Value → H} {W : World} {base : Nat} {held : Bool} {fuel : Nat} {cs : List Value} {x : DataW H × List MemPlace}
set_option maxRecDepth 100000 in
theorem chg_of_trod (h : DataW.trod enc Try.prog W base (fun _ => true) held fuel 27 cs = some x) : ∃ y : Cg, y.ok W ∧ cs = ccs y := by
  obtain ⟨xs, n, _, rfl, hl, hlen, hf⟩ := DataW.trod_struct Try.underlying27 h
  rw [Try.cells27] at hl
  match cs, hl, xs, hlen with
  | [c0, c1, c2], _, [y0, y1, y2], _ =>
    have f0 : DataW.trod enc Try.prog W base (fun _ => true) held n 4 (([c0, c1, c2].drop 0).take (Try.prog.cellsOf 4)) = some y0 := hf 0 _ rfl
    have f1 : DataW.trod enc Try.prog W base (fun _ => true) held n 3 (([c0, c1, c2].drop 1).take (Try.prog.cellsOf 3)) = some y1 := hf 1 _ rfl
    have f2 : DataW.trod enc Try.prog W base (fun _ => true) held n 22 (([c0, c1, c2].drop 2).take (Try.prog.cellsOf 22)) = some y2 := hf 2 _ rfl
    rw [Try.cells4] at f0
    rw [Try.cells3] at f1
    rw [Try.cells22] at f2
    obtain ⟨b0, e0, _⟩ := DataW.trod_bool Try.underlying4 f0
    obtain ⟨a1, b1, e1⟩ := int_of_trod f1
    obtain ⟨v2, l2, e2, r2, b2⟩ := bytes_of_trod f2
    simp at e0 e1 e2
    subst e0 e1 e2
    exact ⟨⟨b0, a1, c2, l2⟩, ⟨b1, r2, b2, Rf.one r2⟩, rfl⟩

theorem chgs_of_trod (h : DataW.trod enc Try.prog W base (fun _ => true) held fuel 23 cs = some x) : ∃ v ys, cs = [v] ∧ Cgs W v ys := by
  obtain ⟨v, ys, e, h1, h2⟩ := rf_of_trod (fun p : Cg => if p.dv.oneCell' = true then ccs p else [.bool false, .int .i64 0, .int .i64 0]) (fun p : Cg => p.ok W) 3 (fun y => by split <;> rfl)
    (fun y u hu => by
      split at hu
      · rename_i hy; simp [ccs] at hu; rcases hu with rfl | rfl | rfl; rfl; rfl; exact hy
      · simp at hu; rcases hu with rfl | rfl <;> rfl) Try.underlying23 Try.cells27 (fun _ _ _ h => by obtain ⟨y, a, b⟩ := chg_of_trod h; exact ⟨y, a, by rw [if_pos a.2.2.2]; exact b⟩) h
  refine ⟨v, ys, e, ?_, h2⟩
  have : ys.flatMap (fun p : Cg => if p.dv.oneCell' = true then ccs p else [.bool false, .int .i64 0, .int .i64 0]) = ys.flatMap ccs := by
    clear h1 e
    induction ys with
    | nil => rfl
    | cons y ys ih => rw [List.flatMap_cons, List.flatMap_cons, ih (fun p hp => h2 p (List.mem_cons_of_mem _ hp)), if_pos (h2 y (List.mem_cons_self ..)).2.2.2]
  rw [this] at h1
  exact h1
end

/-- How many bytes the first k changes bring. -/
def sumC (xs : List Cg) (k : Nat) : Nat := ((xs.take k).map fun x => x.data.length).sum

theorem sumC_succ (xs : List Cg) (k : Nat) (x : Cg) (h : xs[k]? = some x) : sumC xs (k + 1) = sumC xs k + x.data.length := by
  unfold sumC
  rw [List.take_add_one, h]
  simp

theorem sumC_mono (xs : List Cg) {j k : Nat} (h : j ≤ k) : sumC xs j ≤ sumC xs k := by
  induction k with
  | zero => rw [Nat.le_zero.1 h]; exact Nat.le_refl _
  | succ k ih =>
    by_cases e : j = k + 1
    · rw [e]; exact Nat.le_refl _
    · refine Nat.le_trans (ih (by omega)) ?_
      by_cases hk : k < xs.length
      · rw [sumC_succ xs k _ (List.getElem?_eq_getElem hk)]; omega
      · unfold sumC
        rw [List.take_of_length_le (by omega), List.take_of_length_le (by omega)]
        exact Nat.le_refl _

/-- One change done: the list of changes behind it, and whether a row more is kept. -/
def stepT (base : List Int) (cs : List Chg) (x : Cg) : List Chg :=
  if x.cut then cutC base cs (x.size % ((rowC base cs).1.length + 1 : Int)).toNat else addC cs x.data

end Go.Proofs.Ytlmompdfombgeab

namespace Go.Proofs.Ytlmompdfombgeab
open Go.RowKit Go.MapKept

theorem flat8 (l : List Int) : (l.flatMap fun y => [Value.int .u8 y]) = B8 l := by
  induction l with
  | nil => rfl
  | cons x l ih => rw [List.flatMap_cons, ih]; rfl

/-- A disk that is one's own: all its blocks are new. -/
structure Dk (w wr : World) (d : Nat) (t : Wt) (D : Dq) (n : Nat) : Prop where
  dk : DkT wr d t D
  wd : WD n D
  ge : ∀ k, Dft d t D k → w.heap.size ≤ k
  hb : Below w.heap.size w wr

theorem Dk.below {w wr wr' : World} {d : Nat} {t : Wt} {D : Dq} {n : Nat} (h : Dk w wr d t D n) (hb : Below wr.heap.size wr wr') : Dk w wr' d t D n :=
  ⟨h.dk.below hb, h.wd, h.ge, h.hb.trans (hb.mono h.hb.size)⟩

theorem Dk.goes {w wr wr' : World} {d : Nat} {t t' : Wt} {D D' : Dq} {n n' : Nat} (h : Dk w wr d t D n) (hg : Goes d wr t D wr' t' D') (hw : WD n' D') : Dk w wr' d t' D' n' :=
  ⟨hg.dk, hw, fun k hk => by
    rcases hg.ft k hk with e | e
    · exact h.ge k e
    · exact Nat.le_trans h.hb.size e,
   h.hb.trans (hg.kp.below h.hb.size fun k hk e => absurd (h.ge k e) (by omega))⟩

theorem nmF_size : nmF.size ≤ maxLen := by decide

theorem t_create {w wr : World} {d : Nat} {t : Wt} (h : Dk w wr d t (newD 4194304 1) 0) :
    Calls Try.prog 6 #[.pointer (some ⟨d, 0, none⟩), .string nmF] wr fun x w' => x = .returned (.int .i64 0) ∧ ∃ t', Dk w w' d t' (preD [] [] 1) 2 := by
  have hc := create_dk h.dk h.wd (by omega) nmF nmF_size
  have hw := h.wd.createP nmF
  rw [create_torn] at hc hw
  exact hc.mono fun x w' ⟨e, t', hg⟩ => ⟨e, t', h.goes hg hw⟩

theorem t_app0 {w wr : World} {d : Nat} {t : Wt} (h : Dk w wr d t (preD [] [] 1) 2) (ao : Option Addr) (cap : Nat) (base : List Int) (hsl : Sl w (.slice ao base.length cap) base) (hl : base.length ≤ 200000) :
    Calls Try.prog 7 #[.pointer (some ⟨d, 0, none⟩), .string nmF, .slice ao base.length cap] wr fun x w' => x = .returned (.int .i64 0) ∧ ∃ t', Dk w w' d t' (preD [] (addC [] base) 2) 4 := by
  have hd := h.ge d (.inl rfl)
  have hc := app_dk h.dk h.wd (by omega) nmF nmF_size ao cap base (hsl.below h.hb) (fun hne k e e2 => by
    obtain ⟨a, c, e3, _, h3⟩ := hsl
    obtain ⟨b, off, e4, h4⟩ := h3 hne
    injection e3 with e3 _ _
    subst e3
    subst e4
    simp [Value.ownBlock] at e
    obtain ⟨x, hx⟩ : ∃ x, base[0]? = some x := ⟨_, List.getElem?_eq_getElem (List.length_pos_iff.2 hne)⟩
    have := World.block_lt_of_cell? _ _ (h4 0 x hx)
    simp at this
    omega) (by omega)
  have hw := h.wd.appP nmF base
  rw [app_pre base hl] at hc hw
  exact hc.mono fun x w' ⟨e, t', hg⟩ => ⟨e, t', h.goes hg hw⟩

theorem t_sync {w wr : World} {d : Nat} {t : Wt} {base : List Int} (h : Dk w wr d t (preD [] (addC [] base) 2) 4) :
    Calls Try.prog 8 #[.pointer (some ⟨d, 0, none⟩), .string nmF] wr fun x w' => x = .returned (.int .i64 0) ∧ ∃ t', Dk w w' d t' (preD base [] 3) 6 := by
  have hc := sync_dk h.dk h.wd (by omega) nmF nmF_size
  have hw := h.wd.syncP nmF
  rw [sync_torn] at hc hw
  exact hc.mono fun x w' ⟨e, t', hg⟩ => ⟨e, t', h.goes hg hw⟩

theorem t_syncN {w wr : World} {d : Nat} {t : Wt} {base : List Int} (h : Dk w wr d t (preD base [] 3) 6) :
    Calls Try.prog 9 #[.pointer (some ⟨d, 0, none⟩)] wr fun x w' => x = .returned (.int .i64 0) ∧ ∃ t', Dk w w' d t' (oneD base [] 4) 8 := by
  have hc := syncN_dk h.dk h.wd (by omega)
  have hw := h.wd.syncNP
  rw [syncN_torn] at hc hw
  exact hc.mono fun x w' ⟨e, t', hg⟩ => ⟨e, t', h.goes hg hw⟩

theorem t_app {w wr : World} {d : Nat} {t : Wt} {base : List Int} {cs : List Chg} {st : Int} {n : Nat} (h : Dk w wr d t (oneD base cs st) n) (hn : n ≤ 1000) (ao : Option Addr) (cap : Nat) (ys : List Int) (hsl : Sl w (.slice ao ys.length cap) ys) (hl : peakC base cs + ys.length ≤ 200000) :
    Calls Try.prog 7 #[.pointer (some ⟨d, 0, none⟩), .string nmF, .slice ao ys.length cap] wr fun x w' => x = .returned (.int .i64 0) ∧ ∃ t', Dk w w' d t' (oneD base (addC cs ys) (st + 1)) (n + 2) ∧ Goes d wr t (oneD base cs st) w' t' (oneD base (addC cs ys) (st + 1)) := by
  have hd := h.ge d (.inl rfl)
  have hc := app_dk h.dk h.wd (by omega) nmF nmF_size ao cap ys (hsl.below h.hb) (fun hne k e e2 => by
    obtain ⟨a, c, e3, _, h3⟩ := hsl
    obtain ⟨b, off, e4, h4⟩ := h3 hne
    injection e3 with e3 _ _
    subst e3
    subst e4
    simp [Value.ownBlock] at e
    obtain ⟨x, hx⟩ : ∃ x, ys[0]? = some x := ⟨_, List.getElem?_eq_getElem (List.length_pos_iff.2 hne)⟩
    have := World.block_lt_of_cell? _ _ (h4 0 x hx)
    simp at this
    omega) (by omega)
  have hw := h.wd.appP nmF ys
  rw [app_one base cs st ys hl] at hc hw
  exact hc.mono fun x w' ⟨e, t', hg⟩ => ⟨e, t', h.goes hg hw, hg⟩

theorem t_cut {w wr : World} {d : Nat} {t : Wt} {base : List Int} {cs : List Chg} {st : Int} {n : Nat} (h : Dk w wr d t (oneD base cs st) n) (hn : n ≤ 1000) (k : Nat) (hk : k ≤ (rowC base cs).1.length) :
    Calls Try.prog 11 #[.pointer (some ⟨d, 0, none⟩), .string nmF, .int .i64 k] wr fun x w' => x = .returned (.int .i64 0) ∧ ∃ t', Dk w w' d t' (oneD base (cutC base cs k) (st + 1)) (n + 2) ∧ Goes d wr t (oneD base cs st) w' t' (oneD base (cutC base cs k) (st + 1)) := by
  have hc := cut_dk h.dk h.wd (by omega) nmF nmF_size k
  have hw := h.wd.cutP nmF k
  rw [cut_one base cs st k hk] at hc hw
  exact hc.mono fun x w' ⟨e, t', hg⟩ => ⟨e, t', h.goes hg hw, hg⟩

/-- The law's state: the disk and the rows. -/
structure TS (w wr : World) (d : Nat) (t : Wt) (base : List Int) (cs : List Chg) (st : Int) (n : Nat) (hv : Value) (vs : List Value) : Prop where
  dk : Dk w wr d t (oneD base cs st) n
  rw : Rws wr w.heap.size hv vs (rowsC base cs)

theorem TS.below {w wr wr' : World} {d : Nat} {t : Wt} {base : List Int} {cs : List Chg} {st : Int} {n : Nat} {hv : Value} {vs : List Value} (h : TS w wr d t base cs st n hv vs) (hb : Below wr.heap.size wr wr') : TS w wr' d t base cs st n hv vs :=
  ⟨h.dk.below hb, h.rw.below hb⟩

theorem TS.goes {w wr wr' : World} {d : Nat} {t t' : Wt} {base : List Int} {cs cs' : List Chg} {st st' : Int} {n n' : Nat} {hv : Value} {vs : List Value} (h : TS w wr d t base cs st n hv vs) (hg : Goes d wr t (oneD base cs st) wr' t' (oneD base cs' st')) (hk : Dk w wr' d t' (oneD base cs' st') n') : Dk w wr' d t' (oneD base cs' st') n' ∧ Rws wr' w.heap.size hv vs (rowsC base cs) :=
  ⟨hk, h.rw.goes h.dk.dk hg⟩

/-- A row more: the state behind it. -/
theorem ts_push {w wr wr' : World} {d : Nat} {t : Wt} {base : List Int} {cs : List Chg} {c : Chg} {st : Int} {n : Nat} {hv : Value} {vs : List Value} (hk : Dk w wr d t (oneD base (cs ++ [c]) st) n) (hr : Rws wr w.heap.size hv vs (rowsC base cs)) {v : Value} (hv1 : wr.ownsRow w.heap.size 37 2 v (rowC base (cs ++ [c])).1.length (cellsR (rowC base (cs ++ [c])))) {ao : Option Addr} {cp : Nat} (hown : wr'.ownsRow w.heap.size 35 1 (.slice ao (cs.length + 1 + 1) cp) (cs.length + 1 + 1) (vs ++ [v])) {o : Obj} (hg : (wr.alloc o).grownBy wr' hv.ownBlock) :
    TS w wr' d t base (cs ++ [c]) st n (.slice ao (cs.length + 1 + 1) cp) (vs ++ [v]) := by
  have hl := rowsC_len base cs
  have hb : Kept (fun k => hv.ownBlock = some k) wr wr' := ((Kept.refl _ wr).alloc o).grown hg (fun _ _ e => e)
  refine ⟨⟨hk.dk.kept hb fun k hd e => ?_, hk.wd, hk.ge, hk.hb.trans (hb.below hk.hb.size fun k hlt e => ?_)⟩, ?_⟩
  · obtain ⟨cur, hc⟩ := owns_typed hr.hd e
    exact hk.dk.notRow (by decide) hc hd
  · have := (hr.hd.lt k e).1
    omega
  · rw [rowsC_snoc, ← hl]
    rw [← hl] at hown
    exact hr.push hv1 hown hg

end Go.Proofs.Ytlmompdfombgeab

namespace Go.Proofs.Ytlmompdfombgeab
open Go.RowKit Go.MapKept

theorem cutG {A : Type} {F : A → World → Prop} {a : A} {w : World} (I : World → Prop) (h : I w) (k : ∀ w', I w' → F a w') : F a w := k w h
theorem bel_on {a b c : World} (h : Below a.heap.size a b) (k : Below b.heap.size b c) : Below a.heap.size a c := h.trans (k.mono h.size)
theorem bel_al (w : World) (o : Obj) : Below w.heap.size w (w.alloc o) := (Below.refl _ _).alloc (Nat.le_refl _) o

theorem mod_nat (v : Int) (n : Nat) (hn : 0 < n) : ∃ a : Nat, a < n ∧ v % (n : Int) = a := by
  have h1 := Int.emod_nonneg v (show (n : Int) ≠ 0 by omega)
  have h2 := Int.emod_lt_of_pos v (show (0 : Int) < n by omega)
  exact ⟨(v % n).toNat, by omega, by omega⟩

set_option maxRecDepth 100000 in
/-- The law's own round. -/
theorem lround_any (v n : Int) (w : World) (hv : I64 v) (hn : 0 < n) (hn2 : n ≤ 1000000000) : Calls Try.prog 10 #[.int .i64 v, .int .i64 n] w fun x w' => x = .returned (.int .i64 (v % n)) ∧ w' = w := by
  obtain ⟨h0, h1⟩ := hv
  obtain ⟨e1, e2, e3⟩ := round_eq v n hn
  have hne : ¬ n = 0 := by omega
  have H1 := hid (show v.tmod n + n = v % n ∨ ¬ v.tmod n < 0 by
    have := Int.emod_nonneg v (show n ≠ 0 by omega)
    have := Int.emod_lt_of_pos v hn
    by_cases hl : v.tmod n < 0
    · left
      rw [Int.emod_eq_of_lt (by omega) (by omega)] at e1
      exact e1
    · exact .inr hl)
  have H2 := hid (show v.tmod n < 0 ∨ v.tmod n = v % n by
    by_cases hl : v.tmod n < 0
    · exact .inl hl
    · right
      rw [Int.add_emod_right, Int.emod_eq_of_lt (by omega) (by omega)] at e1
      exact e1)
  clear e1
  by_cases hl : v.tmod n < 0
  · have H3 := hid (H1.out.resolve_right (fun h => h hl))
    go_enter Try.func10, Try.ntmps10
    go_wp2
    go_ret
    refine ⟨?_, rfl⟩
    rw [← H3.out]
    rfl
  · have H3 := hid (H2.out.resolve_left hl)
    go_enter Try.func10, Try.ntmps10
    go_wp2
    go_ret
    refine ⟨?_, rfl⟩
    rw [← H3.out]
    rfl

theorem Try.info37 : (Try.prog.info? 37).map (fun i => (i.zero, i.size, i.bytes)) = some (some (.agg #[.int .u8 0, .bool false]), 2, 2) := by kernel_rfl
theorem Try.info35 : (Try.prog.info? 35).map (fun i => (i.zero, i.size, i.bytes)) = some (some (.slice none 0 0), 1, 24) := by kernel_rfl

/-- One cell of a row, in a block of its own. -/
theorem rf_cell1 (w : World) (x : Int) (b : Bool) : Rf (w.alloc (.cells #[.int .u8 x, .bool b] 37)) 2 (.slice (some ⟨w.heap.size, 0, none⟩) 1 1) 1 [.int .u8 x, .bool b] := by
  have h : (w.alloc (.cells #[.int .u8 x, .bool b] 37)).ownsRow 0 37 2 (.slice (some ⟨w.heap.size, 0, none⟩) 1 1) 1 [.int .u8 x, .bool b] := ⟨by simp, .inr ⟨w.heap.size, 1, _, rfl, Nat.zero_le _, hp_new w _, Nat.le_refl _, by decide, by simp, by simp⟩⟩
  exact rf_of_owns h (by intro u hu; simp at hu; rcases hu with rfl | rfl <;> rfl)

/-- One header, in a block of its own. -/
theorem rf_head1 (w : World) (v : Value) (hv : v.oneCell' = true) : Rf (w.alloc (.cells #[v] 35)) 1 (.slice (some ⟨w.heap.size, 0, none⟩) 1 1) 1 [v] := by
  have h : (w.alloc (.cells #[v] 35)).ownsRow 0 35 1 (.slice (some ⟨w.heap.size, 0, none⟩) 1 1) 1 [v] := ⟨by simp, .inr ⟨w.heap.size, 1, _, rfl, Nat.zero_le _, hp_new w _, Nat.le_refl _, by decide, by simp, by simp⟩⟩
  exact rf_of_owns h (by intro u hu; simp at hu; subst hu; exact hv)

theorem zip_len (r : List Int × List Bool) (h : r.2.length = r.1.length) : (r.1.zip r.2).length = r.1.length := by simp [h]

/-- A cell more. -/
theorem cellsR_snoc (xs : List Int) (bs : List Bool) (x : Int) (b : Bool) (h : bs.length = xs.length) : cellsR (xs ++ [x], bs ++ [b]) = cellsR (xs, bs) ++ [.int .u8 x, .bool b] := by
  unfold cellsR
  rw [List.zip_append h.symm]
  simp [cellR]

theorem cellsR_take (r : List Int × List Bool) (_h : r.2.length = r.1.length) (k : Nat) (_hk : k ≤ r.1.length) : cellsR (r.1.take k, r.2.take k) = (cellsR r).take (k * 2) := by
  unfold cellsR
  rw [show ((r.1.take k, r.2.take k) : List Int × List Bool).1.zip (r.1.take k, r.2.take k).2 = (r.1.zip r.2).take k from by simp [List.zip, List.take_zipWith]]
  have key : ∀ (l : List (Int × Bool)) (k : Nat), (l.take k).flatMap cellR = (l.flatMap cellR).take (k * 2) := by
    intro l
    induction l with
    | nil => intro k; simp
    | cons x l ih =>
      intro k
      cases k with
      | zero => simp
      | succ k => 
        rw [List.take_succ_cons, List.flatMap_cons, List.flatMap_cons, ih, show (k + 1) * 2 = 2 + k * 2 by omega]
        simp [cellR, List.take_add]
  exact key _ _

/-- The cell at a place of a row. -/
theorem cellsR_get (r : List Int × List Bool) (_h : r.2.length = r.1.length) (i : Nat) (x : Int) (b : Bool) (hx : r.1[i]? = some x) (hb : r.2[i]? = some b) : (cellsR r)[i * 2]? = some (.int .u8 x) ∧ (cellsR r)[i * 2 + 1]? = some (.bool b) := by
  have hz : (r.1.zip r.2)[i]? = some (x, b) := by simp [List.getElem?_zip_eq_some, hx, hb]
  unfold cellsR
  have h0 := flat_get cellR 2 cellR_len (r.1.zip r.2) i 0 (by omega)
  have h1 := flat_get cellR 2 cellR_len (r.1.zip r.2) i 1 (by omega)
  rw [hz] at h0 h1
  exact ⟨by simpa [cellR] using h0, by simpa [cellR] using h1⟩

/-- The first k of an owned row, to be read. -/
theorem own_first {w : World} {B : Nat} {ao : Option Addr} {n c : Nat} {xs : List Value} (h : w.ownsRow B 37 2 (.slice ao n c) n xs) (h1 : ∀ u ∈ xs, u.oneCell' = true) (k : Nat) (hk : k ≤ n) : Rf w 2 (.slice ao k c) k (xs.take (k * 2)) := by
  obtain ⟨q0, q1, q2⟩ := rf_of_owns h h1
  refine ⟨by simp; omega, fun u hu => q1 u (List.mem_of_mem_take hu), ?_⟩
  rcases q2 with ⟨e, e2⟩ | ⟨a, cap, e, e3, e4, e5⟩
  · left
    injection e with e _ ec
    subst e ec
    obtain rfl : k = 0 := by omega
    exact ⟨rfl, rfl⟩
  · right
    injection e with e _ ec
    subst e ec
    refine ⟨a, c, rfl, by omega, e4, ?_⟩
    first
      | exact fun j u hu => e5 j u (by rw [List.getElem?_take] at hu; split at hu; exact hu; cases hu)
      | exact fun j hj => by rw [e5 j (by omega)]; simp [List.getElem?_take]; omega

/-- The row of the first bytes. -/
def firstR (base : List Int) (i : Nat) : List Int × List Bool := (base.take i, List.replicate i false)

theorem firstR_snoc (base : List Int) (i : Nat) (x : Int) (h : base[i]? = some x) : cellsR (firstR base (i + 1)) = cellsR (firstR base i) ++ [.int .u8 x, .bool false] := by
  have hi : i < base.length := (List.getElem?_eq_some_iff.1 h).1
  unfold firstR
  rw [List.take_add_one, h, List.replicate_succ', ← cellsR_snoc _ _ _ _ (by simp; omega)]
  rfl

theorem firstR_all (base : List Int) : firstR base base.length = rowC base [] := by simp [firstR, rowC]

/-- A row with the first bytes of a change. -/
def growR (r : List Int × List Bool) (ys : List Int) (k : Nat) : List Int × List Bool := (r.1 ++ ys.take k, r.2 ++ List.replicate k true)

theorem growR_snoc (r : List Int × List Bool) (hr : r.2.length = r.1.length) (ys : List Int) (k : Nat) (x : Int) (h : ys[k]? = some x) : cellsR (growR r ys (k + 1)) = cellsR (growR r ys k) ++ [.int .u8 x, .bool true] := by
  have hi : k < ys.length := (List.getElem?_eq_some_iff.1 h).1
  unfold growR
  rw [List.take_add_one, h, List.replicate_succ', ← cellsR_snoc _ _ _ _ (by simp; omega)]
  simp [List.append_assoc]

end Go.Proofs.Ytlmompdfombgeab
