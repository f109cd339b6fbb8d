import Derived.Test.YtlmompdfombgeabGreatK26
import Derived.Deep.Cut
namespace Go.Proofs.YtlmompdfombgeabGreat
open Go.RowKit Go.MapKept

theorem ff_setF (f' : Fi) (m : Int) : ∀ {l : List Fi}, f'.no ∈ l.map Fi.no → ff m (setF f' l) = if m = f'.no then some f' else ff m l
  | [], h => by cases h
  | g :: l, h => by
    show ff m ((if g.no = f'.no then f' else g) :: setF f' l) = _
    by_cases hg : g.no = f'.no
    · rw [if_pos hg, ff]
      by_cases hm : m = f'.no
      · rw [if_pos hm.symm, if_pos hm]
      · rw [if_neg (fun e => hm e.symm), if_neg hm, ff, if_neg (fun e => hm (by rw [← e, hg]))]
        by_cases hx : f'.no ∈ l.map Fi.no
        · rw [ff_setF f' m hx, if_neg hm]
        · have : setF f' l = l := by
            unfold setF
            conv => rhs; rw [← List.map_id l]
            refine List.map_congr_left fun y hy => ?_
            rw [if_neg (fun e => hx (by rw [← e]; exact List.mem_map.2 ⟨y, hy, rfl⟩))]
            rfl
          rw [this]
    · rw [if_neg hg, ff, ff]
      have hx : f'.no ∈ l.map Fi.no := by
        rw [List.map_cons, List.mem_cons] at h
        rcases h with h | h
        · exact absurd h.symm hg
        · exact h
      by_cases hm : g.no = m
      · rw [if_pos hm, if_pos hm, if_neg (fun e => hg (by rw [hm, e]))]
      · rw [if_neg hm, if_neg hm]
        exact ff_setF f' m hx

/-- A disk whose first k names have been synced. -/
structure SyI (D : Dq) (k : Nat) (E : Dq) : Prop where
  sn : E.safeN = D.safeN
  tu : E.turns = D.turns
  off : E.off = false
  fs : E.fs = []
  no : E.files.map Fi.no = D.files.map Fi.no
  row : ∀ m, rowN E m = rowN D m
  don : ∀ i nm m f, i < k → (skN D.names)[i]? = some nm → lo nm D.names = some m → ff m E.files = some f → f.cs = []

section
variable {D E : Dq} {n k : Nat}

theorem SyI.names (h : SyI D k E) : E.names = D.names := by unfold Dq.names; rw [h.sn, h.tu]

theorem syI_zero (ho : D.off = false) : SyI D 0 (planD [] [] D) := ⟨rfl, rfl, ho, rfl, rfl, fun _ => rfl, fun i _ _ _ h => by omega⟩

theorem cntS_none (ho : E.fs = []) : cntS E = { E with st := E.st + 1, off := false } := by
  unfold cntS
  rw [ho]
  simp [fo]

theorem SyI.step (h : SyI D k E) (hW : WD n D) (nm : ByteArray) (hs : (skN D.names)[k]? = some nm) : (syncP E nm).1 = 0 ∧ SyI D (k + 1) (syncP E nm).2 := by
  obtain ⟨m, hlo, hok, -⟩ := filesD_at hW k nm hs
  have hm : m ∈ E.files.map Fi.no := by rw [h.no]; exact hW.nam.l (nm, m) (lo_mem hlo)
  obtain ⟨f, hf⟩ := ff_some hm
  have hfn := (ff_mem hf).2
  have hlook : E.look nm = some f := by
    unfold Dq.look
    rw [h.names, hlo]
    exact hf
  have hp : pre1 E nm false 0 = 0 := by
    unfold pre1
    rw [h.off, hlook, hok]
    simp
  have e1 : syncP E nm = (0, { cntS E with files := setF { f with safe := f.row.1, cs := [] } E.files }) := by
    unfold syncP strokeP
    rw [if_neg (by simpa using hp), if_neg (by rw [h.fs]; simp [fo, fe])]
    unfold syncK
    have : (cntS E).look nm = some f := hlook
    rw [this]
    rfl
  rw [e1]
  have hmem : (⟨f.no, f.row.1, []⟩ : Fi).no ∈ E.files.map Fi.no := by
    show f.no ∈ _
    rw [hfn]
    exact hm
  have hff : ∀ q, ff q (setF ⟨f.no, f.row.1, []⟩ E.files) = if q = f.no then some ⟨f.no, f.row.1, []⟩ else ff q E.files := fun q => ff_setF ⟨f.no, f.row.1, []⟩ q hmem
  refine ⟨rfl, h.sn, h.tu, by rw [cntS_none h.fs], h.fs, ?_, ?_, ?_⟩
  · show (setF ⟨f.no, f.row.1, []⟩ E.files).map Fi.no = _
    rw [setF_no]
    exact h.no
  · intro q
    rw [← h.row q]
    show ((ff q (setF ⟨f.no, f.row.1, []⟩ E.files)).map fun f => f.row.1).getD [] = ((ff q E.files).map fun f => f.row.1).getD []
    rw [hff]
    by_cases hq : q = f.no
    · rw [if_pos hq, hq, hfn, hf]
      rfl
    · rw [if_neg hq]
  · intro i nm' m' g hi hs' hlo' hg
    replace hg : ff m' (setF ⟨f.no, f.row.1, []⟩ E.files) = some g := hg
    rw [hff] at hg
    by_cases hq : m' = f.no
    · rw [if_pos hq] at hg
      injection hg with hg
      rw [← hg]
    · rw [if_neg hq] at hg
      by_cases hik : i < k
      · exact h.don i nm' m' g hik hs' hlo' hg
      · have : i = k := by omega
        subst this
        rw [hs] at hs'
        injection hs' with hs'
        subst hs'
        rw [hlo] at hlo'
        injection hlo' with hlo'
        exact absurd (by rw [← hlo', hfn]) hq

theorem SyI.end (h : SyI D k E) (hW : WD n D) (hk : (skN D.names).length ≤ k) : (syncNP E).1 = 0 ∧ Calm (syncNP E).2 ∧ filesD (syncNP E).2 = filesD D ∧ safeD (syncNP E).2 = filesD D ∧ (syncNP E).2.off = false := by
  have e1 : syncNP E = (0, settleD E.names (cntS E)) := by
    unfold syncNP strokeP
    rw [if_neg (by simp [pre0, h.off]), if_neg (by rw [h.fs]; simp [fo, fe])]
    rfl
  have hnd : (E.files.map Fi.no).Nodup := by rw [h.no]; exact hW.nd
  have hcalm : Calm (settleD E.names (cntS E)) := by
    refine ⟨rfl, fun f hf => ?_, liveF_liveF _ _⟩
    obtain ⟨hf1, hf2⟩ := mem_liveF.1 (show f ∈ liveF E.names E.files from hf)
    obtain ⟨x, hx, ex⟩ := List.mem_map.1 hf2
    rw [h.names] at hx
    have hlo := lo_of_mem hW.nam.k hx
    obtain ⟨i, hi⟩ := List.mem_iff_getElem?.1 ((skN_perm D.names).mem_iff.2 (List.mem_map.2 ⟨x, hx, rfl⟩))
    have hil := (List.getElem?_eq_some_iff.1 hi).1
    exact h.don i x.1 x.2 f (by omega) hi hlo (by rw [ex]; exact ff_self hnd hf1)
  have hfil : filesD (settleD E.names (cntS E)) = filesD D := by
    have hnm : (settleD E.names (cntS E)).names = D.names := by
      show E.names = D.names
      exact h.names
    unfold filesD
    rw [hnm]
    refine toldN_congr hW.nam.k (fun x hx => ?_)
    rw [← h.row x.2]
    have hm : x.2 ∈ E.files.map Fi.no := by rw [h.no]; exact hW.nam.l x hx
    obtain ⟨f, hf⟩ := ff_some hm
    have hf2 := ff_mem hf
    have hl : f ∈ liveF E.names E.files := mem_liveF.2 ⟨hf2.1, by rw [hf2.2, h.names]; exact List.mem_map.2 ⟨x, hx, rfl⟩⟩
    have hnd2 : ((liveF E.names E.files).map Fi.no).Nodup := hnd.sublist (List.Sublist.map _ List.filter_sublist)
    show ((ff x.2 (liveF E.names E.files)).map fun f => f.row.1).getD [] = ((ff x.2 E.files).map fun f => f.row.1).getD []
    rw [hf, ← hf2.2, ff_self hnd2 hl]
  rw [e1]
  refine ⟨rfl, hcalm, hfil, ?_, ?_⟩
  · rw [← hcalm.same]
    exact hfil
  · show (cntS E).off = false
    rw [cntS_none h.fs]

end
end Go.Proofs.YtlmompdfombgeabGreat

namespace Go.Proofs.YtlmompdfombgeabGreat
open Go.RowKit Go.MapKept

/-- Two disks beside one another. -/
structure Two (w0 W : World) (d1 : Nat) (t1 : Wt) (D1 : Dq) (d2 : Nat) (t2 : Wt) (D2 : Dq) : Prop where
  h1 : DkT W d1 t1 D1
  h2 : DkT W d2 t2 D2
  lo1 : ∀ q, Dft d1 t1 D1 q → w0.heap.size ≤ q
  lo2 : ∀ q, Dft d2 t2 D2 q → w0.heap.size ≤ q
  dj : ∀ q, Dft d1 t1 D1 q → ¬ Dft d2 t2 D2 q
  hb : Below w0.heap.size w0 W

section
variable {w0 W W' : World} {d1 d2 : Nat} {t1 t2 t' : Wt} {D1 D2 D' : Dq}

theorem Two.below (h : Two w0 W d1 t1 D1 d2 t2 D2) (hb : Below W.heap.size W W') : Two w0 W' d1 t1 D1 d2 t2 D2 :=
  ⟨h.h1.below hb, h.h2.below hb, h.lo1, h.lo2, h.dj, h.hb.trans (hb.mono h.hb.size)⟩

theorem Two.left (h : Two w0 W d1 t1 D1 d2 t2 D2) (g : Goes d1 W t1 D1 W' t' D') : Two w0 W' d1 t' D' d2 t2 D2 := by
  refine ⟨g.dk, h.h2.kept g.kp (fun k a b => h.dj k b a), fun q e => ?_, h.lo2, fun q e e2 => ?_, h.hb.trans (g.kp.below h.hb.size (fun k hk e => by have := h.lo1 k e; omega))⟩
  · rcases g.ft q e with e | e
    · exact h.lo1 q e
    · exact Nat.le_trans h.hb.size e
  · rcases g.ft q e with e | e
    · exact h.dj q e e2
    · have := h.h2.lt q e2
      omega

theorem Two.right (h : Two w0 W d1 t1 D1 d2 t2 D2) (g : Goes d2 W t2 D2 W' t' D') : Two w0 W' d1 t1 D1 d2 t' D' := by
  refine ⟨h.h1.kept g.kp (fun k a b => h.dj k a b), g.dk, h.lo1, fun q e => ?_, fun q e2 e => ?_, h.hb.trans (g.kp.below h.hb.size (fun k hk e => by have := h.lo2 k e; omega))⟩
  · rcases g.ft q e with e | e
    · exact h.lo2 q e
    · exact Nat.le_trans h.hb.size e
  · rcases g.ft q e with e | e
    · exact h.dj q e2 e
    · have := h.h1.lt q e2
      omega

/-- A list of files that was told, its blocks from a on and ahead of b. -/
def FbS (W : World) (a b : Nat) (v : Value) (l : List (ByteArray × List Int)) : Prop := ∃ W0, FbAt W0 a v l ∧ W0.heap.size = b ∧ Kept (fun k => k < a) W0 W

theorem FbS.start {a : Nat} {v : Value} {l : List (ByteArray × List Int)} (h : FbAt W a v l) : FbS W a W.heap.size v l := ⟨W, h, rfl, Kept.refl _ _⟩

theorem FbS.le {a b : Nat} {v : Value} {l : List (ByteArray × List Int)} (h : FbS W a b v l) : b ≤ W.heap.size := by
  obtain ⟨W0, _, rfl, k⟩ := h
  exact k.size

theorem FbS.get {a b : Nat} {v : Value} {l : List (ByteArray × List Int)} (h : FbS W a b v l) : FbAt W a v l := by
  obtain ⟨W0, h1, rfl, k⟩ := h
  exact h1.kept k (fun k h1 _ => by omega)

theorem FbS.kept {a b : Nat} {v : Value} {l : List (ByteArray × List Int)} {S : Nat → Prop} (h : FbS W a b v l) (hk : Kept S W W') (hs : ∀ q, S q → q < a ∨ b ≤ q) : FbS W' a b v l := by
  obtain ⟨W0, h1, rfl, k⟩ := h
  exact ⟨W0, h1, rfl, k.trans hk (fun i hi e => by have := hs i e; omega)⟩

theorem FbS.below {a b : Nat} {v : Value} {l : List (ByteArray × List Int)} (h : FbS W a b v l) (hb : Below W.heap.size W W') : FbS W' a b v l := h.kept (Kept.ofBelow hb) (fun _ e => e.elim)

/-- Two disks, and a list that was told. -/
structure TwoS (w0 W : World) (d1 : Nat) (t1 : Wt) (D1 : Dq) (d2 : Nat) (t2 : Wt) (D2 : Dq) (a b : Nat) (v : Value) (l : List (ByteArray × List Int)) : Prop where
  tw : Two w0 W d1 t1 D1 d2 t2 D2
  fb : FbS W a b v l
  s1 : ∀ q, Dft d1 t1 D1 q → q < a ∨ b ≤ q
  s2 : ∀ q, Dft d2 t2 D2 q → q < a ∨ b ≤ q

variable {a b : Nat} {v : Value} {l : List (ByteArray × List Int)}

theorem twoS_start (h : Two w0 W d1 t1 D1 d2 t2 D2) (hf : FbAt W' W.heap.size v l) (hb : Below W.heap.size W W') : TwoS w0 W' d1 t1 D1 d2 t2 D2 W.heap.size W'.heap.size v l :=
  ⟨h.below hb, FbS.start hf, fun q e => .inl (h.h1.lt q e), fun q e => .inl (h.h2.lt q e)⟩

theorem TwoS.below (h : TwoS w0 W d1 t1 D1 d2 t2 D2 a b v l) (hb : Below W.heap.size W W') : TwoS w0 W' d1 t1 D1 d2 t2 D2 a b v l :=
  ⟨h.tw.below hb, h.fb.below hb, h.s1, h.s2⟩

theorem TwoS.left (h : TwoS w0 W d1 t1 D1 d2 t2 D2 a b v l) (g : Goes d1 W t1 D1 W' t' D') : TwoS w0 W' d1 t' D' d2 t2 D2 a b v l :=
  ⟨h.tw.left g, h.fb.kept g.kp h.s1, fun q e => (g.ft q e).elim (h.s1 q) (fun e => .inr (Nat.le_trans h.fb.le e)), h.s2⟩

theorem TwoS.right (h : TwoS w0 W d1 t1 D1 d2 t2 D2 a b v l) (g : Goes d2 W t2 D2 W' t' D') : TwoS w0 W' d1 t1 D1 d2 t' D' a b v l :=
  ⟨h.tw.right g, h.fb.kept g.kp h.s2, h.s1, fun q e => (g.ft q e).elim (h.s2 q) (fun e => .inr (Nat.le_trans h.fb.le e))⟩

/-- One disk, and a list that was told. -/
structure OneS (w0 W : World) (d : Nat) (t : Wt) (D : Dq) (a b : Nat) (v : Value) (l : List (ByteArray × List Int)) : Prop where
  h : DkT W d t D
  lo : ∀ q, Dft d t D q → w0.heap.size ≤ q
  hb : Below w0.heap.size w0 W
  fb : FbS W a b v l
  s : ∀ q, Dft d t D q → q < a ∨ b ≤ q

theorem oneS_start (h : Two w0 W d1 t1 D1 d2 t2 D2) (hf : FbAt W' W.heap.size v l) (hb : Below W.heap.size W W') : OneS w0 W' d2 t2 D2 W.heap.size W'.heap.size v l :=
  ⟨h.h2.below hb, h.lo2, h.hb.trans (hb.mono h.hb.size), FbS.start hf, fun q e => .inl (h.h2.lt q e)⟩

theorem OneS.below (h : OneS w0 W d1 t1 D1 a b v l) (hb : Below W.heap.size W W') : OneS w0 W' d1 t1 D1 a b v l :=
  ⟨h.h.below hb, h.lo, h.hb.trans (hb.mono h.hb.size), h.fb.below hb, h.s⟩

theorem OneS.goes (h : OneS w0 W d1 t1 D1 a b v l) (g : Goes d1 W t1 D1 W' t' D') : OneS w0 W' d1 t' D' a b v l := by
  refine ⟨g.dk, fun q e => ?_, h.hb.trans (g.kp.below h.hb.size (fun k hk e => by have := h.lo k e; omega)), h.fb.kept g.kp h.s, fun q e => (g.ft q e).elim (h.s q) (fun e => .inr (Nat.le_trans h.fb.le e))⟩
  rcases g.ft q e with e | e
  · exact h.lo q e
  · exact Nat.le_trans h.hb.size e

end
end Go.Proofs.YtlmompdfombgeabGreat

namespace Go.Proofs.YtlmompdfombgeabGreat
open Go.RowKit Go.MapKept

theorem cutG {A : Type} {F : A → World → Prop} {a : A} {w : World} (I : World → Prop) (h : I w) (k : ∀ w', I w' → F a w') : F a w := k w h

theorem two_start {w w2 w3 w4 : World} {d1 d2 : Nat} {t1 t2 : Wt} {D1 D2 : Dq} (h0 : Below w.heap.size w w2) (h1 : DkT w3 d1 t1 D1) (l1 : ∀ q, Dft d1 t1 D1 q → w2.heap.size ≤ q) (hb3 : Below w2.heap.size w2 w3)
    (h2 : DkT w4 d2 t2 D2) (l2 : ∀ q, Dft d2 t2 D2 q → w3.heap.size ≤ q) (hb4 : Below w3.heap.size w3 w4) : Two w w4 d1 t1 D1 d2 t2 D2 := by
  have z0 := h0.size
  have z3 := hb3.size
  have b3 := h0.trans (hb3.mono h0.size)
  exact ⟨h1.below hb4, h2, fun q e => Nat.le_trans z0 (l1 q e), fun q e => Nat.le_trans b3.size (l2 q e), fun q e e2 => by have := h1.lt q e; have := l2 q e2; omega, b3.trans (hb4.mono b3.size)⟩

theorem pk_lt {w : World} {fv : Value} {pk : List Pk} (hpk : Pks w fv pk) (k : Nat) (e : pkBlk fv pk k) : k < w.heap.size := by
  rcases e with ⟨h0, e⟩ | ⟨p, hp, h0, e⟩
  · exact Rf.blk hpk.1 h0 (by omega) k e
  · exact Rf.blk (hpk.2 p hp).2.1 h0 (by omega) k e

theorem pk_none (q : Nat) (e : pkBlk (.slice none 0 0) [] q) : False := by
  rcases e with ⟨h0, _⟩ | ⟨p, hp, _⟩
  · simp at h0
  · cases hp

theorem pks_nil (w : World) : Pks w (.slice none 0 0) [] := ⟨rf_nil w 2, fun _ h => nomatch h⟩

/-- The one step that bears the picks. -/
def pkSp (pn : Int) (fv : Value) (pk : List Pk) : Sp := ⟨0, ByteArray.empty, ByteArray.empty, .slice none 0 0, [], 0, .slice none 0 0, [], .slice none 0 0, [], pn, fv, pk⟩

theorem pkSp_ok {w : World} {pn : Int} {fv : Value} {pk : List Pk} (hpn : I64 pn) (hpk : Pks w fv pk) : (pkSp pn fv pk).ok w :=
  ⟨(by unfold I64; omega : I64 0), (by unfold I64; omega : I64 0), hpn, (by decide : ByteArray.empty.size ≤ maxLen), (by decide : ByteArray.empty.size ≤ maxLen), rf_nil w 1, (fun _ h => nomatch h), rf_nil w 2, (fun _ h => nomatch h), rf_nil w 2, (fun _ h => nomatch h), hpk⟩

theorem sps_one {W : World} {x : Sp} (h : x.ok W) : Sps (W.alloc (.cells (scs x).toArray 32)) (.slice (some ⟨W.heap.size, 0, none⟩) 1 1) [x] := by
  have hb : Below W.heap.size W (W.alloc (.cells (scs x).toArray 32)) := (Below.refl _ _).alloc (Nat.le_refl _) _
  refine ⟨⟨rfl, ?_, .inr ⟨⟨W.heap.size, 0, none⟩, 1, rfl, Nat.le_refl _, by decide, ?_⟩⟩, ?_⟩
  · intro u hu
    exact h.ones u (by simpa using hu)
  · intro j u hu
    rw [add_lit, Nat.zero_add, cell_of_row _ _ _ _ _ _ (hp_new W _)]
    simpa using hu
  · intro y hy
    obtain rfl : y = x := by simpa using hy
    exact h.below hb

theorem bel_on {a b c : World} (h : Below a.heap.size a b) (k : Below b.heap.size b c) : Below a.heap.size a c := h.trans (k.mono h.size)

theorem bel_al (w : World) (o : Obj) : Below w.heap.size w (w.alloc o) := (Below.refl _ _).alloc (Nat.le_refl _) o

theorem dn_below {w w' : World} (h : DN w w') : Below w.heap.size w w' := by
  obtain ⟨n, rfl⟩ := h
  exact below_drewN (Below.refl _ _) n

theorem told_small {n : Nat} {D : Dq} (h : WD n D) : ((filesD D).length ≤ 1000000 ∧ szF (filesD D) ≤ 100000000) ∧ ((safeD D).length ≤ 1000000 ∧ szF (safeD D) ≤ 100000000) := by
  have h1 := files_sz h
  have h2 := safe_sz h
  have h3 := files_len h
  have h4 := safe_len h
  have h5 := h.cnt
  have h6 := h.lim
  have h7 := h.hld
  have h8 := h.room
  unfold heldD at h1 h2
  omega

theorem told_at {D : Dq} {k : Nat} {x : ByteArray × List Int} (h : (filesD D)[k]? = some x) : (skN D.names)[k]? = some x.1 := by
  unfold filesD toldN at h
  rw [List.getElem?_map] at h
  cases hs : (skN D.names)[k]? with
  | none => rw [hs] at h; cases h
  | some nm =>
    rw [hs] at h
    have := Option.some.inj h
    rw [← this]

set_option maxRecDepth 100000 in
set_option maxHeartbeats 12800000 in
theorem safe_law (room most : Int) (v : Value) (xs : List Sp) (pn : Int) (fv : Value) (pk : List Pk) (w : World) (h : Sps w v xs) (hpn : I64 pn) (hpk : Pks w fv pk) :
    Calls Tryz.prog 3 #[.int .i64 room, .int .i64 most, v, .agg #[.int .i64 pn, fv]] w fun x w' => x = .returned (.bool true) ∧ Below w.heap.size w w' := by
  obtain ⟨ao, cap, rfl, hc, hcm⟩ := h.1.shape
  obtain ⟨ap, cp, rfl, hc2, hcm2⟩ := hpk.1.shape
  have HS := hid h
  have HP := hid (And.intro hpn hpk)
  clear h hpn hpk
  go_enter Tryz.func3, Tryz.ntmps3
  go_upto_region 1 with fail
  have hbx : Below w.heap.size w (w.alloc (.cells #[.int .i64 pn, .slice ap pk.length cp] 25)) := (Below.refl _ _).alloc (Nat.le_refl _) _
  refine cutG (fun W => Below w.heap.size w W ∧ Sps W (.slice ao xs.length cap) xs ∧ Pks W (.slice ap pk.length cp) pk ∧ W.heap[w.heap.size]? = some (.cells #[.int .i64 pn, .slice ap pk.length cp] 25 (0, 0))) ⟨hbx, HS.out.below hbx, HP.out.2.below hbx, hp_new w _⟩ ?_
  intro W0 HH
  have H0 := hid HH
  clear HH hbx HS
  have HPN := hid HP.out.1
  clear HP
  have hp0 : W0.cell? ⟨w.heap.size, 0, none⟩ = some (.int .i64 pn) := (cells2 H0.out.2.2.2).1
  have hp1 : W0.cell? ⟨w.heap.size, 1, none⟩ = some (.slice ap pk.length cp) := (cells2 H0.out.2.2.2).2
  have HMU := hid (fun W (hW : Below W0.heap.size W0 W) => much_any (.slice ao xs.length cap) xs W (H0.out.2.1.below hW))
  go_upto_region 3 with (first
    | (go_at_call 7
       refine (HMU.out _ (Below.refl _ _)).mono ?_
       rintro e w1 ⟨hb1, rr, rfl, hm⟩
       have H1 := hid (And.intro hb1 hm)
       have q0 := (hb1.cell (World.block_lt_of_cell? _ _ hp0)).trans hp0
       have q1 := (hb1.cell (World.block_lt_of_cell? _ _ hp1)).trans hp1
       clear HMU hb1 hm)
    | (go_at_call 7
       refine (much_any (.slice (some ⟨w1.heap.size, 0, none⟩) 1 1) [pkSp pn (.slice ap pk.length cp) pk] _ (sps_one (pkSp_ok HPN.out (H0.out.2.2.1.below H1.out.1)))).mono ?_
       rintro e w2 ⟨hb2, r2, rfl, hm2⟩
       have H2 := hid (And.intro hb2 hm2)
       clear hb2 hm2)
    | (go_at_call 8
       refine (known_any _).mono ?_
       rintro e w3 ⟨rfl, hb3⟩
       have HK := hid hb3
       clear hb3))
  · go_ret
    exact ⟨rfl, bel_on (bel_on H0.out.1 H1.out.1) HK.out⟩
  · go_ret
    exact ⟨rfl, bel_on (bel_on (bel_on (bel_on H0.out.1 H1.out.1) (bel_al _ _)) H2.out.1) HK.out⟩
  have hrr : rr = false := by simpa using ‹¬ rr = true›
  have hr2 : r2 = false := ‹r2 = false›
  have HSM := hid (H1.out.2 hrr)
  have HPS := hid (show pk.length ≤ 300 ∧ ∀ p ∈ pk, p.lost.length ≤ 300 from ((H2.out.2 hr2).2 _ (List.mem_singleton.2 rfl)).2.2.2.2.2)
  have HW2 := hid (bel_on (bel_on H1.out.1 (bel_al _ _)) H2.out.1)
  clear H1 H2 hrr q0 q1
  subst hr2
  by_cases hg : 0 ≤ room ∧ room ≤ 4194304 ∧ 0 ≤ most ∧ most ≤ 512
  · obtain ⟨g0, g1, g2, g3⟩ := hg
    have HFR := hid (fun W => fresh_ok room most W g0 g1 g2 g3)
    go_upto_region 7 with (first
      | (go_at_call 9
         refine (HFR.out _).mono ?_
         rintro e w3 ⟨rfl, ⟨t1, hd1, hl1⟩, hb3⟩
         have H3 := hid (And.intro hd1 (And.intro hl1 hb3))
         have HFS := HFR
         clear HFR hd1 hl1 hb3)
      | (go_at_call 9
         refine (HFS.out _).mono ?_
         rintro e w4 ⟨rfl, ⟨t2, hd2, hl2⟩, hb4⟩
         have H4 := hid (two_start HW2.out H3.out.1 H3.out.2.1 H3.out.2.2 hd2 hl2 hb4)
         clear HFS hd2 hl2 hb4))
    clear H3
    generalize w2.heap.size = d1 at H4 ⊢
    generalize w3.heap.size = d2 at H4 ⊢
    clear HW2
    go_wp2
    go_loopw [11] (fun ix wr => ∃ (k : Nat) (t1 t2 : Wt) (D : Dq), k ≤ xs.length ∧ ix = .int .i64 k ∧ Hid (Two W0 wr d1 t1 D d2 t2 D ∧ WD (2 * k) D)) (fun ix _ => xs.length - (intOf ix).toNat)
    case atStart => exact ⟨0, t1, t2, newD room most, Nat.zero_le _, rfl, hid ⟨H4.out, newD_WD room most g0 g1 g2 g3⟩⟩
    clear H4
    obtain ⟨k, t1, t2, D, hk, rfl, HR⟩ := hrel
    have hxl := HSM.out.1
    by_cases hlt : k < xs.length
    · have i1 : (k : Int) < (xs.length : Int) := by omega
      have i0 : (0 : Int) ≤ (k : Int) := by omega
      obtain ⟨b, ofs, cap', e, -, -, hcell⟩ := Rf.elem (f := scs) (fun _ => rfl) (by omega) H0.out.2.1.1 k hlt
      injection e with e1 e2 e3
      subst e1 e3
      clear e2
      have hok := H0.out.2.1.2 xs[k] (List.getElem_mem hlt)
      have hsm := HSM.out.2 xs[k] (List.getElem_mem hlt)
      obtain ⟨x, hx⟩ : ∃ x, x = xs[k] := ⟨_, rfl⟩
      rw [← hx] at hok hsm hcell
      have hdoes := fun (W : World) (d : Nat) (t : Wt) (hd : DkT W d t D) (hb : Below W0.heap.size W0 W) (hlo : ∀ q, Dft d t D q → W0.heap.size ≤ q) => does_dk x (⟨hd, HR.out.2, by omega, hok, hb, hlo, hsm⟩ : DoesPre W0 W d t D (2 * k) x)
      obtain ⟨D', hD'⟩ : ∃ D', D' = (doesP x D).2 := ⟨_, rfl⟩
      obtain ⟨er, her⟩ : ∃ er, er = (doesP x D).1 := ⟨_, rfl⟩
      have hW' : WD (2 * (k + 1)) D' := by rw [hD', Nat.mul_add]; exact HR.out.2.doesP x
      simp only [← hD', ← her] at hdoes
      obtain ⟨kind, name, to, dv, data, nn, sv, gs, rv, gr, qn, fv, qk⟩ := x
      obtain ⟨-, -, -, -, -, hdt, -, hfs, -, hfr, -, hpk⟩ := hok
      obtain ⟨a1, q1', e1, d1', d2'⟩ := hdt.shape
      obtain ⟨a2, q2', e2, d3', d4'⟩ := hfs.shape
      obtain ⟨a3, q3', e3, d5', d6'⟩ := hfr.shape
      obtain ⟨a4, q4', e4, d7', d8'⟩ := hpk.1.shape
      dsimp only at e1 e2 e3 e4
      subst e1 e2 e3 e4
      have cc : ∀ (W : World), Below W0.heap.size W0 W → (W.cell? ⟨b, ofs + k * 9, none⟩ = some (.int .i64 kind) ∧ W.cell? ⟨b, ofs + k * 9 + 1, none⟩ = some (.string name) ∧ W.cell? ⟨b, ofs + k * 9 + 2, none⟩ = some (.string to) ∧ W.cell? ⟨b, ofs + k * 9 + 3, none⟩ = some (.slice a1 data.length q1') ∧ W.cell? ⟨b, ofs + k * 9 + 4, none⟩ = some (.int .i64 nn) ∧ W.cell? ⟨b, ofs + k * 9 + 5, none⟩ = some (.slice a2 gs.length q2') ∧ W.cell? ⟨b, ofs + k * 9 + 6, none⟩ = some (.slice a3 gr.length q3') ∧ W.cell? ⟨b, ofs + k * 9 + 7, none⟩ = some (.int .i64 qn) ∧ W.cell? ⟨b, ofs + k * 9 + 8, none⟩ = some (.slice a4 qk.length q4')) := fun W hb => by
        have q := fun c u hu => ((hb.cell (World.block_lt_of_cell? _ _ (hcell c u hu))).trans (hcell c u hu))
        exact ⟨q 0 _ rfl, q 1 _ rfl, q 2 _ rfl, q 3 _ rfl, q 4 _ rfl, q 5 _ rfl, q 6 _ rfl, q 7 _ rfl, q 8 _ rfl⟩
      dsimp only at hdoes
      have HCC := hid cc
      have HDO := hid hdoes
      have HWN := hid hW'
      have hbd : Below wr.heap.size wr wr.drew := ⟨rfl, rfl, rfl, Nat.le_refl _, fun _ _ => rfl⟩
      have HT := hid (HR.out.1.below hbd)
      have hb0d := HT.out.hb
      clear hcell cc hdt hfs hfr hpk hdoes hx hsm hD' her hW' hbd d1' d2' d3' d4' d5' d6' d7' d8'
      go_upto_region 10 with fail
      go_region_held (fun wx => wx.cell? ⟨b, ofs + k * 9, none⟩ = some (.int .i64 kind) ∧ wx.cell? ⟨b, ofs + k * 9 + 1, none⟩ = some (.string name) ∧ wx.cell? ⟨b, ofs + k * 9 + 2, none⟩ = some (.string to) ∧ wx.cell? ⟨b, ofs + k * 9 + 3, none⟩ = some (.slice a1 data.length q1') ∧ wx.cell? ⟨b, ofs + k * 9 + 4, none⟩ = some (.int .i64 nn) ∧ wx.cell? ⟨b, ofs + k * 9 + 5, none⟩ = some (.slice a2 gs.length q2') ∧ wx.cell? ⟨b, ofs + k * 9 + 6, none⟩ = some (.slice a3 gr.length q3') ∧ wx.cell? ⟨b, ofs + k * 9 + 7, none⟩ = some (.int .i64 qn) ∧ wx.cell? ⟨b, ofs + k * 9 + 8, none⟩ = some (.slice a4 qk.length q4')) (exact HCC.out _ (by assumption)) (first
        | (go_at_call 10
           refine (HDO.out _ d1 t1 HT.out.h1 HT.out.hb HT.out.lo1).mono ?_
           rintro e w5 ⟨rfl, t1', hg⟩
           have H5 := hid (HT.out.left hg)
           have hb5 := H5.out.hb
           clear hg HT)
        | (go_at_call 10
           refine (HDO.out _ d2 t2 H5.out.h2 H5.out.hb H5.out.lo2).mono ?_
           rintro e w6 ⟨rfl, t2', hg⟩
           have H6 := hid (H5.out.right hg)
           have hb6 := H6.out.hb
           clear hg H5))
      go_wp2
      go_roundw
      case rel => exact ⟨k + 1, t1', t2', D', by omega, by go_num, hid ⟨H6.out, HWN.out⟩⟩
      case measure => simp [intOf]; omega
    · have HTW := hid HR.out.1
      have HW := hid HR.out.2
      have hkk : 2 * k ≤ 400 := by omega
      have HZ := hid (crash_zero HR.out.2)
      have HTS := hid (told_small HR.out.2)
      have HWC := hid (HR.out.2.crashP 0 [])
      clear HR HSM
      go_upto_region 13 with (
        go_at_call 11
        refine (safe_dk HTW.out.h1 HW.out).mono ?_
        rintro e w5 ⟨v5, rfl, hf5, hb5⟩
        have H5 := hid (twoS_start HTW.out hf5 hb5)
        clear hf5 hb5 HTW)
      go_upto_region 14 with (
        go_at_call 12
        refine (crash_dk H5.out.tw.h1 HW.out (by omega) 0 (by unfold I64; omega) (.slice none 0 0) [] (pks_nil _) (by simp) (fun _ h => nomatch h) (fun q e _ => pk_none q e)).mono ?_
        rintro e w6 ⟨v6, t6, rfl, hf6, hg6⟩
        have H6 := hid (And.intro (H5.out.left hg6) (show FbAt w6 w5.heap.size v6 (safeD D) from HZ.out.1 ▸ hf6))
        clear hf6 hg6 H5)
      go_upto_region 16 with (first
        | (go_at_call 13
           refine (files_same H6.out.2 H6.out.1.fb.get HTS.out.2.1 HTS.out.2.2).mono ?_
           rintro e w7 ⟨rfl, hd7⟩
           have H7 := hid (H6.out.1.below (dn_below hd7))
           clear hd7 H6)
        | (go_at_call 14
           refine (files_dk H7.out.tw.h1 HWC.out).mono ?_
           rintro e w8 ⟨v8, rfl, hf8, hb8⟩
           have H8 := hid (And.intro (H7.out.below hb8) (show FbAt w8 w7.heap.size v8 (safeD D) from HZ.out.2.1 ▸ hf8))
           clear hf8 hb8 H7)
        | (go_at_call 13
           refine (files_same H8.out.2 H8.out.1.fb.get HTS.out.2.1 HTS.out.2.2).mono ?_
           rintro e w9 ⟨rfl, hd9⟩
           have H9 := hid (H8.out.1.below (dn_below hd9))
           clear hd9 H8)
        | (go_at_call 11
           refine (safe_dk H9.out.tw.h1 HWC.out).mono ?_
           rintro e w10 ⟨v10, rfl, hf10, hb10⟩
           have H10 := hid (And.intro (H9.out.below hb10) (show FbAt w10 w9.heap.size v10 (safeD D) from HZ.out.2.2 ▸ hf10))
           clear hf10 hb10 H9)
        | (go_at_call 13
           refine (files_same H10.out.2 H10.out.1.fb.get HTS.out.2.1 HTS.out.2.2).mono ?_
           rintro e w11 ⟨rfl, hd11⟩
           have H11 := hid (H10.out.1.below (dn_below hd11))
           clear hd11 H10))
      clear HWC
      go_upto_region 18 with (first
        | (go_at_call 15
           refine (plan_dk H11.out.tw.h2 (.slice none 0 0) (.slice none 0 0) [] [] (rf_nil _ 2) (rf_nil _ 2) (by simp) (by simp) (fun h => absurd rfl h)).mono ?_
           rintro e w12 ⟨rfl, t12, hg12, -⟩
           have H12 := hid (H11.out.right hg12)
           clear hg12 H11)
        | (go_at_call 14
           refine (files_dk H12.out.tw.h2 (HW.out.plan [] [])).mono ?_
           rintro e w13 ⟨v13, rfl, hf13, hb13⟩
           replace hf13 := (show FbAt w13 w12.heap.size v13 (filesD D) from hf13)
           obtain ⟨an, cn, rfl⟩ := hf13.shape
           have H13 := hid (And.intro (H12.out.below hb13) (oneS_start H12.out.tw hf13 hb13))
           clear hf13 hb13 H12))
      have HWP := hid (HW.out.plan [] [])
      cases ho : D.off
      · have HOF : Hid (∀ W, DkT W d2 t12 (planD [] [] D) → Calls Tryz.prog 16 #[.pointer (some ⟨d2, 0, none⟩)] W fun x w' => x = .returned (.bool false) ∧ Below W.heap.size W w') := hid (fun W h => by
          have := off_dk h
          rwa [show (planD [] [] D).off = false from ho] at this)
        have HSI := hid (syI_zero ho)
        clear ho
        go_upto_region 21 with (
          go_at_call 16
          refine (HOF.out _ H13.out.2.h).mono ?_
          rintro e w14 ⟨rfl, hb14⟩
          have H14 := hid (H13.out.2.below hb14)
          clear hb14 H13 HOF)
        generalize w12.heap.size = fa at H14
        generalize w13.heap.size = fz at H14
        obtain ⟨L, hL⟩ : ∃ L, L = (filesD D).length := ⟨_, rfl⟩
        have hLs : (skN D.names).length = L := by rw [hL]; simp [filesD, toldN]
        have hL2 : L ≤ 512 := by
          have h1 := files_len HW.out
          have h2 := HW.out.cnt
          have h3 := HW.out.lim
          omega
        have HL := hid hL
        rw [← hL] at H14 ⊢
        clear hL
        go_wp2
        go_loopw [15] (fun ix wq => ∃ (j : Nat) (t : Wt) (E : Dq), j ≤ L ∧ ix = .int .i64 j ∧ Hid (OneS W0 wq d2 t E fa fz (.slice an L cn) (filesD D) ∧ WD (2 * k + 2 * j) E ∧ SyI D j E)) (fun ix _ => L - (intOf ix).toNat)
        case atStart => exact ⟨0, t12, planD [] [] D, Nat.zero_le _, rfl, hid ⟨H14.out, HWP.out, HSI.out⟩⟩
        clear H14 HSI
        obtain ⟨j, t, E, hj, rfl, HO⟩ := hrel
        by_cases hjl : j < L
        · have i1 : (j : Int) < (L : Int) := by omega
          have i0 : (0 : Int) ≤ (j : Int) := by omega
          obtain ⟨x, hx⟩ : ∃ x, (filesD D)[j]? = some x := ⟨_, List.getElem?_eq_getElem (by rw [← HL.out]; exact hjl)⟩
          have hsk := told_at hx
          obtain ⟨m, hlo, hnm, -⟩ := filesD_at HW.out j x.1 hsk
          obtain ⟨hst, hsi⟩ := HO.out.2.2.step HW.out x.1 hsk
          obtain ⟨g, cp', e, hat⟩ := HO.out.1.fb.get.at (by rw [← HL.out]; omega)
          injection e with e1 e2 e3
          subst e1
          obtain ⟨Y, c0, -, -⟩ := hat j x hx
          obtain ⟨nm, hnx⟩ : ∃ nm, nm = x.1 := ⟨_, rfl⟩
          rw [← hnx] at hst hsi c0 hnm
          have hsz := nm_size hnm
          have HSY : Hid (Calls Tryz.prog 17 #[.pointer (some ⟨d2, 0, none⟩), .string nm] wr fun x w' => x = .returned (.int .i64 0) ∧ ∃ t', Goes d2 wr t E w' t' (syncP E nm).2) := hid (by
            have := sync_dk HO.out.1.h HO.out.2.1 (by omega) nm (by unfold maxLen; omega)
            rwa [hst] at this)
          have HN := hid (And.intro (HO.out.2.1.syncP nm) hsi)
          clear hx hsk hlo hst hsi hat hnx hnm hsz e2 e3
          go_wp2_with (
            go_at_call 17
            refine HSY.out.mono ?_
            rintro e w15 ⟨rfl, t15, hg15⟩
            have H15 := hid (HO.out.1.goes hg15)
            clear hg15)
          go_roundw
          case rel => exact ⟨j + 1, t15, (syncP E nm).2, by omega, by go_num, hid ⟨H15.out, (by have := HN.out.1; rwa [show 2 * k + 2 * j + 2 = 2 * k + 2 * (j + 1) by omega] at this), HN.out.2⟩⟩
          case measure => simp [intOf]; omega
        · obtain ⟨hs0, hcalm, hfE, hsE, -⟩ := HO.out.2.2.end HW.out (by omega)
          have hWE := HO.out.2.1.syncNP
          have hsn := syncN_dk HO.out.1.h HO.out.2.1 (by omega)
          rw [hs0] at hsn
          obtain ⟨F, hF⟩ : ∃ F, F = (syncNP E).2 := ⟨_, rfl⟩
          rw [← hF] at hcalm hfE hsE hWE hsn
          have HSN := hid hsn
          have HF := hid (And.intro hcalm (And.intro hfE (And.intro hsE (hWE.mono (show 2 * k + 2 * j + 2 ≤ 5000 by omega)))))
          have H1 := hid HO.out.1
          clear HO hs0 hcalm hfE hsE hWE hsn hF HZ HWP
          go_upto_region 28 with (first
            | (go_at_call 18
               refine HSN.out.mono ?_
               rintro e w16 ⟨rfl, t16, hg16⟩
               have H16 := hid (H1.out.goes hg16)
               clear hg16 HSN H1)
            | (go_at_call 14
               refine (files_dk H16.out.h HF.out.2.2.2).mono ?_
               rintro e w17 ⟨v17, rfl, hf17, hb17⟩
               have H17 := hid (And.intro (H16.out.below hb17) (show FbAt w17 w16.heap.size v17 (filesD D) from HF.out.2.1 ▸ hf17))
               clear hf17 hb17 H16)
            | (go_at_call 13
               refine (files_same H17.out.2 H17.out.1.fb.get HTS.out.1.1 HTS.out.1.2).mono ?_
               rintro e w18 ⟨rfl, hd18⟩
               have H18 := hid (H17.out.1.below (dn_below hd18))
               clear hd18 H17)
            | (go_at_call 11
               refine (safe_dk H18.out.h HF.out.2.2.2).mono ?_
               rintro e w19 ⟨v19, rfl, hf19, hb19⟩
               have H19 := hid (And.intro (H18.out.below hb19) (show FbAt w19 w18.heap.size v19 (filesD D) from HF.out.2.2.1 ▸ hf19))
               clear hf19 hb19 H18)
            | (go_at_call 13
               refine (files_same H19.out.2 H19.out.1.fb.get HTS.out.1.1 HTS.out.1.2).mono ?_
               rintro e w20 ⟨rfl, hd20⟩
               have H20 := hid (H19.out.1.below (dn_below hd20))
               clear hd20 H19))
          go_wp2
          go_loopw [16] (fun ix wp => ∃ (i : Nat) (t : Wt) (F : Dq), i ≤ 2 ∧ ix = .int .i64 i ∧ Hid (OneS W0 wp d2 t F fa fz (.slice an L cn) (filesD D) ∧ Calm F ∧ filesD F = filesD D ∧ WD 5000 F)) (fun ix _ => 2 - (intOf ix).toNat)
          case atStart => exact ⟨0, t16, F, by omega, rfl, hid ⟨H20.out, HF.out.1, HF.out.2.1, HF.out.2.2.2⟩⟩
          clear H20 HF
          obtain ⟨i, t, F, hi, rfl, HX⟩ := hrel
          by_cases hi2 : i < 2
          · have i1 : (i : Int) < 2 := by omega
            obtain ⟨h1, h2, h3⟩ := crash_calm HX.out.2.2.2 HX.out.2.1 pn (pksOf pk)
            have hcr := crash_dk HX.out.1.h HX.out.2.2.2 (by omega) pn HPN.out (.slice ap pk.length cp) pk (H0.out.2.2.1.below HX.out.1.hb) (by have := HPS.out.1; omega) (fun p hp => by have := HPS.out.2 p hp; omega) (fun q e hD => by have := HX.out.1.lo q hD; have := pk_lt H0.out.2.2.1 q e; omega)
            have hcm := calm_crash (D := F) pn (pksOf pk)
            have hWG := HX.out.2.2.2.crashP pn (pksOf pk)
            rw [h1] at hcr
            obtain ⟨G, hG⟩ : ∃ G, G = (crashP pn (pksOf pk) F).2 := ⟨_, rfl⟩
            rw [← hG] at hcr hcm hWG h2 h3
            rw [HX.out.2.2.1] at hcr h2 h3
            have HCR := hid hcr
            have HG := hid (And.intro hcm (And.intro h2 (And.intro h3 hWG)))
            have H1 := hid HX.out.1
            have r0 := (HX.out.1.hb.cell (World.block_lt_of_cell? _ _ hp0)).trans hp0
            have r1 := (HX.out.1.hb.cell (World.block_lt_of_cell? _ _ hp1)).trans hp1
            clear HX h1 h2 h3 hcr hcm hWG hG
            go_wp2_with (first
              | (go_at_call 12
                 refine HCR.out.mono ?_
                 rintro e w21 ⟨v21, t21, rfl, hf21, hg21⟩
                 have H21 := hid (And.intro (H1.out.goes hg21) hf21)
                 clear hf21 hg21 HCR H1)
              | (go_at_call 13
                 refine (files_same H21.out.2 H21.out.1.fb.get HTS.out.1.1 HTS.out.1.2).mono ?_
                 rintro e w22 ⟨rfl, hd22⟩
                 have H22 := hid (H21.out.1.below (dn_below hd22))
                 clear hd22 H21)
              | (go_at_call 14
                 refine (files_dk H22.out.h HG.out.2.2.2).mono ?_
                 rintro e w23 ⟨v23, rfl, hf23, hb23⟩
                 have H23 := hid (And.intro (H22.out.below hb23) (show FbAt w23 w22.heap.size v23 (filesD D) from HG.out.2.1 ▸ hf23))
                 clear hf23 hb23 H22)
              | (go_at_call 13
                 refine (files_same H23.out.2 H23.out.1.fb.get HTS.out.1.1 HTS.out.1.2).mono ?_
                 rintro e w24 ⟨rfl, hd24⟩
                 have H24 := hid (H23.out.1.below (dn_below hd24))
                 clear hd24 H23)
              | (go_at_call 11
                 refine (safe_dk H24.out.h HG.out.2.2.2).mono ?_
                 rintro e w25 ⟨v25, rfl, hf25, hb25⟩
                 have H25 := hid (And.intro (H24.out.below hb25) (show FbAt w25 w24.heap.size v25 (filesD D) from HG.out.2.2.1 ▸ hf25))
                 clear hf25 hb25 H24)
              | (go_at_call 13
                 refine (files_same H25.out.2 H25.out.1.fb.get HTS.out.1.1 HTS.out.1.2).mono ?_
                 rintro e w26 ⟨rfl, hd26⟩
                 have H26 := hid (H25.out.1.below (dn_below hd26))
                 clear hd26 H25))
            go_roundw
            case rel => exact ⟨i + 1, t21, G, by omega, by go_num, hid ⟨H26.out, HG.out.1, HG.out.2.1, HG.out.2.2.2⟩⟩
            case measure => simp [intOf]; omega
          · obtain rfl : i = 2 := by omega
            go_wp2_with (
              go_at_call 8
              refine (known_any _).mono ?_
              rintro e w27 ⟨rfl, hb27⟩
              have HK := hid hb27
              clear hb27)
            go_ret
            have hbA := H0.out.1.trans (HX.out.1.hb.mono H0.out.1.size)
            exact ⟨rfl, hbA.trans (HK.out.mono hbA.size)⟩
      · have HOF : Hid (∀ W, DkT W d2 t12 (planD [] [] D) → Calls Tryz.prog 16 #[.pointer (some ⟨d2, 0, none⟩)] W fun x w' => x = .returned (.bool true) ∧ Below W.heap.size W w') := hid (fun W h => by
          have := off_dk h
          rwa [show (planD [] [] D).off = true from ho] at this)
        have HZP := hid (show filesD (crashP 0 [] (planD [] [] D)).2 = safeD D from (crash_zero HWP.out).2.1)
        have HWQ := hid (HWP.out.crashP 0 [])
        clear ho
        go_wp2_with (first
          | (go_at_call 16
             refine (HOF.out _ H13.out.2.h).mono ?_
             rintro e w14 ⟨rfl, hb14⟩
             have H14 := hid (H13.out.1.below hb14)
             clear hb14 H13 HOF)
          | (go_at_call 12
             refine (crash_dk H14.out.tw.h2 HWP.out (by omega) 0 (by unfold I64; omega) (.slice none 0 0) [] (pks_nil _) (by simp) (fun _ h => nomatch h) (fun q e _ => pk_none q e)).mono ?_
             rintro e w15 ⟨v15, t15, rfl, -, hg15⟩
             have H15 := hid (H14.out.right hg15)
             clear hg15 H14)
          | (go_at_call 14
             refine (files_dk H15.out.tw.h2 HWQ.out).mono ?_
             rintro e w16 ⟨v16, rfl, hf16, hb16⟩
             have H16 := hid (And.intro (H15.out.below hb16) (show FbAt w16 w15.heap.size v16 (safeD D) from HZP.out ▸ hf16))
             clear hf16 hb16 H15)
          | (go_at_call 13
             refine (files_same H16.out.2 H16.out.1.fb.get HTS.out.2.1 HTS.out.2.2).mono ?_
             rintro e w17 ⟨rfl, hd17⟩
             have H17 := hid (H16.out.1.below (dn_below hd17))
             clear hd17 H16)
          | (go_at_call 8
             refine (known_any _).mono ?_
             rintro e w18 ⟨rfl, hb18⟩
             have HK := hid hb18
             clear hb18))
        go_ret
        have hbA := H0.out.1.trans (H17.out.tw.hb.mono H0.out.1.size)
        exact ⟨rfl, hbA.trans (HK.out.mono hbA.size)⟩
  · have HFN := hid (fun W => fresh_no room most W hg)
    clear hg
    go_wp2_with (first
      | (go_at_call 9
         refine (HFN.out _).mono ?_
         rintro e w3 ⟨rfl, e3⟩
         rw [e3]
         clear e3)
      | (go_at_call 8
         refine (known_any _).mono ?_
         rintro e w4 ⟨rfl, hb4⟩
         have HK := hid hb4
         clear hb4))
    go_ret
    exact ⟨rfl, (H0.out.1.trans (HW2.out.mono H0.out.1.size)).trans (HK.out.mono ((H0.out.1.trans (HW2.out.mono H0.out.1.size)).size))⟩

end Go.Proofs.YtlmompdfombgeabGreat
