import Derived.Test.YtlmompdfombgeaaGreatK28
import Derived.Test.YtlmompdfombgeaaGreatK27
import Derived.Deep.RegionLaw
import Derived.Deep.CutRange
namespace Go.Proofs.YtlmompdfombgeaaGreat
open Go.RowKit Go.MapKept

section
variable {w w' : World} {r : Nat} {R : Rt} {D : Dq} {n : Nat}

/-- A file's cells in the row of all. -/
theorem RdT.fcell (h : RdT w r R D) (hl : D.files.length ≤ 1000) {i : Nat} {f : Fi} (hi : D.files[i]? = some f) : ∃ b cl, R.lv = .slice (some ⟨b, 0, none⟩) D.files.length cl ∧ D.files.length ≤ cl ∧ b ≠ r ∧ b < w.heap.size ∧ ∀ W, Below w.heap.size w W → W.cell? ⟨r, 3, none⟩ = some (.slice (some ⟨b, 0, none⟩) D.files.length cl) ∧ W.cell? ⟨b, i * 3, none⟩ = some (.int .i64 f.no) ∧ W.cell? ⟨b, i * 3 + 1, none⟩ = some (R.bv f.no) ∧ W.cell? ⟨b, i * 3 + 2, none⟩ = some (R.pv f.no) ∧ ∀ o, W.frozen? ⟨b, o, none⟩ = false := by
  have hil := (List.getElem?_eq_some_iff.1 hi).1
  obtain ⟨b, cl, e⟩ := own_some h.lis (by omega)
  obtain ⟨b2, ofs, cap', e2, -, -, hcell⟩ := Rf.elem (f := rfcs R) (fun _ => rfl) (by omega) h.fat i hil
  rw [e] at e2
  injection e2 with e2 e3 e4
  injection e2 with e2
  injection e2 with e5 e6
  subst e5 e6
  have hfe : D.files[i] = f := by rw [List.getElem?_eq_getElem hil] at hi; exact Option.some.inj hi
  rw [hfe] at hcell
  have hwo : R.wo b := h.fl b (by rw [e]; rfl)
  have hcp : D.files.length ≤ cl := by have := h.lis; rw [e] at this; exact own_cap this
  refine ⟨b, cl, e, hcp, fun e7 => h.r2 (e7 ▸ hwo), h.lt b (.inr hwo), fun W hb => ?_⟩
  have y0 := (show w.cell? ⟨b, 0 + i * 3, none⟩ = some (.int .i64 f.no) from hcell 0 _ rfl)
  have y1 := (show w.cell? ⟨b, 0 + i * 3 + 1, none⟩ = some (R.bv f.no) from hcell 1 _ rfl)
  have y2 := (show w.cell? ⟨b, 0 + i * 3 + 2, none⟩ = some (R.pv f.no) from hcell 2 _ rfl)
  rw [Nat.zero_add] at y0 y1 y2
  obtain ⟨-, -, -, c3, -⟩ := h.cells
  rw [e] at c3
  have hW := (h.below hb).lis
  rw [e] at hW
  exact ⟨(hb.cell (World.block_lt_of_cell? _ _ c3)).trans c3, (hb.cell (World.block_lt_of_cell? _ _ y0)).trans y0, (hb.cell (World.block_lt_of_cell? _ _ y1)).trans y1, (hb.cell (World.block_lt_of_cell? _ _ y2)).trans y2, hW.frozenAt⟩

theorem RdT.row2 (_h : RdT w r R D) (nd : (D.files.map Fi.no).Nodup) {i : Nat} {f f' : Fi} (hi : D.files[i]? = some f) (hno : f'.no = f.no) {b cl : Nat} (hlv : R.lv = .slice (some ⟨b, 0, none⟩) D.files.length cl) {w6 : World} (ho : w6.ownsRow 0 141 3 R.lv D.files.length (D.files.flatMap (rfcs R))) (bv' pv' : Value) :
    ((w6.setCell ⟨b, i * 3 + 1, none⟩ bv').setCell ⟨b, i * 3 + 2, none⟩ pv').ownsRow 0 141 3 R.lv D.files.length ((Go.Proofs.YtlmompdfombgeaaGreat.setF f' D.files).flatMap fun g => if g.no = f.no then [.int .i64 f.no, bv', pv'] else rfcs R g) := by
  rw [fm_set (rfcs R) (fun _ => rfl) bv' pv' (.int .i64 f.no) (R.bv f.no) (R.pv f.no) D.files i f f' hi rfl hno nd]
  rw [hlv] at ho ⊢
  exact ((ho.stored _ _).1.stored _ _).1

theorem RdT.row1 (_h : RdT w r R D) (nd : (D.files.map Fi.no).Nodup) {i : Nat} {f f' : Fi} (hi : D.files[i]? = some f) (hno : f'.no = f.no) {b cl : Nat} (hlv : R.lv = .slice (some ⟨b, 0, none⟩) D.files.length cl) {w6 : World} (ho : w6.ownsRow 0 141 3 R.lv D.files.length (D.files.flatMap (rfcs R))) (pv' : Value) :
    (w6.setCell ⟨b, i * 3 + 2, none⟩ pv').ownsRow 0 141 3 R.lv D.files.length ((Go.Proofs.YtlmompdfombgeaaGreat.setF f' D.files).flatMap fun g => if g.no = f.no then [.int .i64 f.no, R.bv f.no, pv'] else rfcs R g) := by
  rw [fm_set (rfcs R) (fun _ => rfl) (R.bv f.no) pv' (.int .i64 f.no) (R.bv f.no) (R.pv f.no) D.files i f f' hi rfl hno nd]
  have e1 : (D.files.flatMap (rfcs R)).set (i * 3 + 1) (R.bv f.no) = D.files.flatMap (rfcs R) := by
    have h1 : ∀ (l : List Fi) (i : Nat), l[i]? = some f → (l.flatMap (rfcs R)).set (i * 3 + 1) (R.bv f.no) = l.flatMap (rfcs R) := by
      intro l
      induction l with
      | nil => intro i h; simp at h
      | cons x l ih =>
        intro i h
        cases i with
        | zero =>
          simp at h
          subst h
          rfl
        | succ i =>
          have h2 := ih i (by simpa using h)
          rw [List.flatMap_cons, show (i + 1) * 3 + 1 = (rfcs R x).length + (i * 3 + 1) by show _ = 3 + _; omega, List.set_append_right _ _ (by omega)]
          simp [h2]
    exact h1 _ _ hi
  rw [e1]
  rw [hlv] at ho ⊢
  exact (ho.stored _ _).1

theorem set_other {W : World} {b o r : Nat} {v : Value} (hne : b ≠ r) : (W.setCell ⟨b, o, none⟩ v).heap[r]? = W.heap[r]? := heap_setCell_other W ⟨b, o, none⟩ r v (fun e => hne e.symm)

/-- A file that was synced. -/
theorem RdT.synced (h : RdT w r R D) (nd : (D.files.map Fi.no).Nodup) {i : Nat} {f : Fi} (hi : D.files[i]? = some f) {w6 : World} (hb : Below w.heap.size w w6) {v1 : Value} {xs : List Int} (ho : w6.ownsRow w.heap.size 5 1 v1 xs.length (B8 xs)) {b cl : Nat} (hlv : R.lv = .slice (some ⟨b, 0, none⟩) D.files.length cl) :
    ∃ R', RGoes r w R D ((w6.setCell ⟨b, i * 3 + 1, none⟩ v1).setCell ⟨b, i * 3 + 2, none⟩ (.slice none 0 0)) R' { D with files := Go.Proofs.YtlmompdfombgeaaGreat.setF { f with safe := xs, cs := [] } D.files } ∧ R'.sn = R.sn := by
  have hwo : R.wo b := h.fl b (by rw [hlv]; rfl)
  have hne : b ≠ r := fun e => h.r2 (e ▸ hwo)
  have hbl := h.lt b (.inr hwo)
  have hk6 : Kept (fun q => q = b) w6 ((w6.setCell ⟨b, i * 3 + 1, none⟩ v1).setCell ⟨b, i * 3 + 2, none⟩ (.slice none 0 0)) := ((Kept.refl (fun q => q = b) w6).setCell (p := ⟨b, i * 3 + 1, none⟩) (fun _ => rfl) _).setCell (p := ⟨b, i * 3 + 2, none⟩) (fun _ => rfl) _
  have ho7 := ownsRow_kept ho hk6 (fun k e e2 => by have := (ho.lt k e).1; omega)
  refine h.setF (f := f) (f' := { f with safe := xs, cs := [] }) (List.mem_of_getElem? hi) rfl (bv' := v1) (pv' := .slice none 0 0) (ps' := []) ?_ (h.row2 (f' := { f with safe := xs, cs := [] }) nd hi rfl hlv (ownsRow_kept h.lis (Kept.ofBelow hb) (fun _ _ e => e)) v1 (.slice none 0 0)) ?_ (sn_of_owns ho7) (owns_nil _ _ _ _) rfl (fun p hp => by cases hp) ?_ (fun k e => by simp [Value.ownBlock] at e) (fun k _ e => by simp [Value.ownBlock] at e)
  · rw [set_other hne, set_other hne]
    exact hb.block r (hp_lt h.disk)
  · exact ((Kept.ofBelow hb).mono (S' := fun q => R.lv.ownBlock = some q ∨ (R.pv f.no).ownBlock = some q) (fun _ _ e => e.elim)).trans hk6 (fun k _ e => .inl (by rw [hlv, e]; rfl))
  · rintro k (e | ⟨p, hp, _⟩)
    · exact .inr ⟨(ho.lt k e).1, (ho7.lt k e).2⟩
    · cases hp

/-- A change more of a file. -/
theorem RdT.pended (h : RdT w r R D) (nd : (D.files.map Fi.no).Nodup) {i : Nat} {f : Fi} (hi : D.files[i]? = some f) {w9 : World} (hk9 : Kept (fun q => (R.pv f.no).ownBlock = some q) w w9) {c : Chg} {dv v9 : Value} (h9 : w9.ownsRow 0 148 3 v9 (f.cs.length + 1) ((R.ps f.no).flatMap ccs ++ ccs (c, dv))) (hob : ∀ q, v9.ownBlock = some q → (R.pv f.no).ownBlock = some q ∨ w.heap.size ≤ q)
    (hdv : (∃ k, c = .inr k ∧ dv = .slice none 0 0) ∨ ∃ ys, c = .inl ys ∧ w9.ownsRow w.heap.size 5 1 dv ys.length (B8 ys)) {b cl : Nat} (hlv : R.lv = .slice (some ⟨b, 0, none⟩) D.files.length cl) :
    ∃ R', RGoes r w R D (w9.setCell ⟨b, i * 3 + 2, none⟩ v9) R' { D with files := Go.Proofs.YtlmompdfombgeaaGreat.setF { f with cs := f.cs ++ [c] } D.files } ∧ R'.sn = R.sn := by
  have hf := List.mem_of_getElem? hi
  have hwo : R.wo b := h.fl b (by rw [hlv]; rfl)
  have hne : b ≠ r := fun e => h.r2 (e ▸ hwo)
  have hbl := h.lt b (.inr hwo)
  have hb9 : ¬ (R.pv f.no).ownBlock = some b := fun e => owns_ne (h.pen f hf) h.lis (by decide) b e (by rw [hlv]; rfl)
  have hk6 : Kept (fun q => q = b) w9 (w9.setCell ⟨b, i * 3 + 2, none⟩ v9) := (Kept.refl (fun q => q = b) w9).setCell (p := ⟨b, i * 3 + 2, none⟩) (fun _ => rfl) _
  have hlis9 := ownsRow_kept h.lis hk9 (fun k e e2 => owns_ne h.lis (h.pen f hf) (by decide) k e e2)
  have hv9b : v9.ownBlock ≠ some b := fun e => owns_ne h9 hlis9 (by decide) b e (by rw [hlv]; rfl)
  have hk : Kept (fun q => R.lv.ownBlock = some q ∨ (R.pv f.no).ownBlock = some q) w (w9.setCell ⟨b, i * 3 + 2, none⟩ v9) := (hk9.mono (fun _ _ e => .inr e)).trans hk6 (fun k _ e => .inl (by rw [hlv, e]; rfl))
  obtain ⟨o1, o2, o3, o4, o5⟩ := h.ros hk fun k e e2 => by
    rcases e2 with e2 | e2
    · exact h.ap k e (h.fl k e2)
    · exact h.ap k e (h.fp f hf k e2)
  have hrk : (R.pv f.no).ownBlock ≠ some r := fun e => h.r2 (h.fp f hf r e)
  have hdo : ∀ ys, c = .inl ys → (w9.setCell ⟨b, i * 3 + 2, none⟩ v9).ownsRow w.heap.size 5 1 dv ys.length (B8 ys) := fun ys e => by
    rcases hdv with ⟨k, e2, _⟩ | ⟨ys', e2, ho⟩
    · rw [e] at e2; cases e2
    · rw [e] at e2; cases e2
      exact ownsRow_kept ho hk6 (fun k e e2 => by have := (ho.lt k e).1; omega)
  have hdb : ∀ k, dv.ownBlock = some k → (w.heap.size ≤ k ∧ k < (w9.setCell ⟨b, i * 3 + 2, none⟩ v9).heap.size) ∧ v9.ownBlock ≠ some k := fun k e => by
    rcases hdv with ⟨k', _, e2⟩ | ⟨ys', e2, ho⟩
    · rw [e2] at e; simp [Value.ownBlock] at e
    · exact ⟨⟨(ho.lt k e).1, ((hdo ys' e2).lt k e).2⟩, owns_ne ho h9 (by decide) k e⟩
  refine h.setF (f := f) (f' := { f with cs := f.cs ++ [c] }) hf rfl (bv' := R.bv f.no) (pv' := v9) (ps' := R.ps f.no ++ [(c, dv)]) ?_ (h.row1 (f' := { f with cs := f.cs ++ [c] }) nd hi rfl hlv hlis9 v9) hk (o2 f hf) ?_ ?_ ?_ ?_ hob ?_
  · rw [set_other hne]
    exact hk9.block r (hp_lt h.disk) (fun e => hrk e)
  · show (w9.setCell ⟨b, i * 3 + 2, none⟩ v9).ownsRow 0 148 3 v9 (f.cs ++ [c]).length _
    rw [List.length_append, List.flatMap_append]
    have := ownsRow_kept h9 hk6 (fun k e e2 => hv9b (e2 ▸ e))
    simpa using this
  · rw [List.map_append, h.pfs f hf]; rfl
  · intro p hp
    rcases List.mem_append.1 hp with hp | hp
    · exact o3 f hf p hp
    · rw [List.mem_singleton.1 hp]
      refine ⟨?_, fun ys e => sn_of_owns (hdo ys e)⟩
      rcases hdv with ⟨k, _, e⟩ | ⟨ys, _, ho⟩
      · dsimp only; rw [e]; rfl
      · obtain ⟨a, c', e⟩ := own_shape ho
        dsimp only; rw [e]; rfl
  · rintro k (e | ⟨p, hp, e⟩)
    · exact .inl (h.fb f hf k e)
    · rcases List.mem_append.1 hp with hp | hp
      · exact .inl (h.fd f hf p hp k e)
      · rw [List.mem_singleton.1 hp] at e
        exact .inr (hdb k e).1
  · rintro k (e | ⟨p, hp, e⟩)
    · intro e2
      rcases hob k e2 with e3 | e3
      · exact h.ap k (h.fb f hf k e) (h.fp f hf k e3)
      · have := h.lt k (.inl (h.fb f hf k e)); omega
    · rcases List.mem_append.1 hp with hp | hp
      · intro e2
        rcases hob k e2 with e3 | e3
        · exact h.ap k (h.fd f hf p hp k e) (h.fp f hf k e3)
        · have := h.lt k (.inl (h.fd f hf p hp k e)); omega
      · rw [List.mem_singleton.1 hp] at e
        exact (hdb k e).2

theorem pre1_lk {nm : ByteArray} {sz : Int} (h : pre1 D nm false sz = 0) : ∃ f, D.look nm = some f ∧ 0 ≤ sz ∧ sz ≤ (f.row.1.length : Int) := by
  unfold pre1 at h
  cases ho : D.off
  · rw [ho] at h
    cases hk : nmOK nm
    · rw [hk] at h; simp at h
    · rw [hk] at h
      cases hl : D.look nm with
      | none => rw [hl] at h; simp at h
      | some f =>
        rw [hl] at h
        refine ⟨f, rfl, ?_⟩
        simp at h
        omega
  · rw [ho] at h; simp at h

set_option maxRecDepth 100000 in
set_option maxHeartbeats 3200000 in
theorem sync_r (h : RdT w r R D) (hW : WD n D) (hn : n ≤ 90000) (hT : TOK D) (hl : D.fs.length ≤ 300) (nm : ByteArray) (hs : nm.size ≤ maxLen) :
    Calls Tryz.prog 55 #[.pointer (some ⟨r, 0, none⟩), .string nm] w fun e w' => e = .returned (.int .i64 (syncP D nm).1) ∧ ∃ R', RGoes r w R D w' R' (syncP D nm).2 := by
  have HK := hid (known_r h hW (by omega) hT nm hs)
  have H := hid h
  by_cases q0 : pre1 D nm false 0 = 0
  · rw [q0] at HK
    obtain ⟨q2, q3⟩ := pre1_zero q0
    obtain ⟨f, hlk, -⟩ := pre1_lk q0
    have HS := hid (fun (W : World) (hb : Below w.heap.size w W) => stroke_r (h.below hb) hW (by omega) hl q2)
    by_cases hf : fe (fo D.fs (D.st + 1)) = 0
    · have hp : syncP D nm = (0, { cntS D with files := setF { f with safe := f.row.1, cs := [] } (cntS D).files }) := by
        have e : (cntS D).look nm = some f := hlk
        simp [syncP, strokeP, q0, hf, syncK, e]
      rw [hp]
      rw [hf] at HS
      have HLK := hid hlk
      have hfl : D.files.length ≤ 1000 := by have h1 := hW.cnt; have h2 := hW.lim; omega
      have HWD := hid hW
      clear h hp q0 q2 q3 hf hlk hW
      go_enter Tryz.func55, Tryz.ntmps55
      go_upto_region 7 with (first
        | (go_at_call 103
           refine HK.out.mono ?_
           rintro e w1 ⟨⟨i, rfl, hi⟩, hb1⟩
           obtain ⟨f', hlk, hfi⟩ := hi rfl
           have hff : f' = f := by rw [HLK.out] at hlk; exact (Option.some.inj hlk).symm
           have H1 := hid (And.intro hb1 (hff ▸ hfi))
           clear hb1 hi hlk hfi hff)
        | (go_at_call 104
           refine (HS.out _ H1.out.1).mono ?_
           rintro e w2 ⟨rfl, hr2, hk2⟩
           have H2 := hid (And.intro hr2 hk2)
           clear hr2 hk2))
      obtain ⟨b, cl, hlv, hcl, hbr, hbl, hcc⟩ := H2.out.1.fcell (i := i) (f := f) hfl H1.out.2
      have hmem : f ∈ D.files := List.mem_of_getElem? H1.out.2
      have hil : i < D.files.length := (List.getElem?_eq_some_iff.1 H1.out.2).1
      obtain ⟨ap, cp2, hpv⟩ := own_shape (H2.out.1.pen f hmem)
      obtain ⟨abv, cbv, hbv, -, -⟩ := (H2.out.1.saf f hmem).1
      have hby := H2.out.1.byt_r (cntS_WD' HWD.out) (by omega) hmem f.cs.length (Nat.le_refl _)
      rw [hpv, hbv] at hby hcc
      rw [List.take_of_length_le (Nat.le_refl _)] at hby
      have HBY := hid hby
      have HCC := hid hcc
      have HC4 := hid (show ∀ W, Below w2.heap.size w2 W → W.cell? ⟨r, 3, none⟩ = some (.slice (some ⟨b, 0, none⟩) D.files.length cl) ∧ W.cell? ⟨b, i * 3, none⟩ = some (.int .i64 f.no) ∧ W.cell? ⟨b, i * 3 + 1, none⟩ = some (.slice abv f.safe.length cbv) ∧ W.cell? ⟨b, i * 3 + 2, none⟩ = some (.slice ap f.cs.length cp2) from fun W hb => ⟨(hcc W hb).1, (hcc W hb).2.1, (hcc W hb).2.2.1, (hcc W hb).2.2.2.1⟩)
      have i1 : (i : Int) < (D.files.length : Int) := by omega
      have hbd : Below w2.heap.size w2 w2.drew := ⟨rfl, rfl, rfl, Nat.le_refl _, fun _ _ => rfl⟩
      have HBD := hid hbd
      have HLV := hid hlv
      obtain ⟨c3, y0, y1, y2, -⟩ := hcc w2 (Below.refl _ _)
      replace c3 := (show w2.cell? ⟨r, 3, none⟩ = some (.slice (some ⟨b, 0, none⟩) D.files.length cl) from c3)
      replace hcl := (show D.files.length ≤ cl from hcl)
      clear hby hbd hlv hpv hbv hcc hmem
      go_region_held (fun wx => wx.cell? ⟨r, 3, none⟩ = some (.slice (some ⟨b, 0, none⟩) D.files.length cl) ∧ wx.cell? ⟨b, i * 3, none⟩ = some (.int .i64 f.no) ∧ wx.cell? ⟨b, i * 3 + 1, none⟩ = some (.slice abv f.safe.length cbv) ∧ wx.cell? ⟨b, i * 3 + 2, none⟩ = some (.slice ap f.cs.length cp2)) (first | exact HC4.out _ HB6.out | exact HC4.out _ HBD.out) (first
        | (go_at_call 106
           refine (HBY.out _ HBD.out).mono ?_
           rintro e w6 ⟨v1, v2, rfl, hby6, hb6⟩
           have HB6 := hid (bel_on HBD.out hb6)
           obtain ⟨a6, cp6, rfl⟩ := own_shape hby6.a
           have H6 := hid hby6
           clear hb6 hby6))
      clear c3 y0 y1 y2
      obtain ⟨c3, y0, y1, y2, hfz⟩ := HCC.out w6 HB6.out
      replace c3 := (show w6.cell? ⟨r, 3, none⟩ = some (.slice (some ⟨b, 0, none⟩) D.files.length cl) from c3)
      have hg := H2.out.1.synced HWD.out.nd (i := i) (f := f) H1.out.2 HB6.out (xs := (rowC f.safe f.cs).1) H6.out.a HLV.out
      have HG := hid hg
      clear hg
      go_wp2
      go_ret
      obtain ⟨R9, hg9, -⟩ := HG.out
      exact ⟨rfl, R9, ((RGoes.still H.out H1.out.1).trans ⟨H2.out.1, H2.out.2.mono (fun _ _ e => .inl e), fun _ e => .inl e⟩).trans hg9⟩
    · have hp : syncP D nm = (fe (fo D.fs (D.st + 1)), cntS D) := by simp [syncP, strokeP, q0, hf]
      rw [hp]
      have hb0 : (fe (fo D.fs (D.st + 1)) == 0) = false := by simpa using hf
      clear h hp q0 q2 q3 hf
      generalize fe (fo D.fs (D.st + 1)) = er at HS hb0 ⊢
      go_enter Tryz.func55, Tryz.ntmps55
      go_wp2_with (first
        | (go_at_call 103
           refine HK.out.mono ?_
           rintro e w1 ⟨⟨i, rfl, -⟩, hb1⟩
           have H1 := hid hb1
           clear hb1)
        | (go_at_call 104
           refine (HS.out _ H1.out).mono ?_
           rintro e w2 ⟨rfl, hr2, hk2⟩
           have H2 := hid (And.intro hr2 hk2)
           clear hr2 hk2))
      go_ret
      exact ⟨rfl, R, (RGoes.still H.out H1.out).trans ⟨H2.out.1, H2.out.2.mono (fun _ _ e => .inl e), fun _ e => .inl e⟩⟩
  · have hp : syncP D nm = (pre1 D nm false 0, D) := by simp [syncP, strokeP, q0]
    rw [hp]
    have hb0 : (pre1 D nm false 0 == 0) = false := by simpa using q0
    clear h hp q0
    generalize pre1 D nm false 0 = er at HK hb0 ⊢
    go_enter Tryz.func55, Tryz.ntmps55
    go_wp2_with (
      go_at_call 103
      refine HK.out.mono ?_
      rintro e w1 ⟨⟨i, rfl, -⟩, hb1⟩
      have H1 := hid hb1
      clear hb1)
    go_ret
    exact ⟨rfl, R, RGoes.still H.out H1.out⟩

end

end Go.Proofs.YtlmompdfombgeaaGreat

namespace Go.Proofs.YtlmompdfombgeaaGreat
open Go.RowKit Go.MapKept

section
variable {w : World} {r : Nat} {R : Rt} {D : Dq} {n : Nat}

theorem pre1_cases (D : Dq) (nm : ByteArray) : (pre1 D nm false 0 = 0 ∧ pre1 D nm true 0 = 7 ∧ D.off = false) ∨ (pre1 D nm false 0 = 6 ∧ pre1 D nm true 0 = 0 ∧ D.off = false ∧ nmOK nm = true) ∨ (pre1 D nm false 0 ≠ 0 ∧ pre1 D nm false 0 ≠ 6 ∧ pre1 D nm true 0 = pre1 D nm false 0) := by
  unfold pre1
  cases D.off
  · cases nmOK nm
    · right; right; simp
    · cases D.look nm
      · right; left; simp
      · left; simp
  · right; right; simp

theorem grown_kept {W w' : World} {o : Obj} {row : Option Nat} (hg : ((W.alloc o).drew).grownBy w' row) : Kept (fun q => row = some q) W w' := (((Kept.refl (fun q => row = some q) W).alloc o).drew).grown hg (fun _ _ e => e)

theorem grown_cell {W w' : World} {o : Obj} {row : Option Nat} {b i : Nat} {v : Value} (hg : ((W.alloc o).drew).grownBy w' row) (hc : W.cell? ⟨b, i, none⟩ = some v) (hn : ¬ row = some b) : w'.cell? ⟨b, i, none⟩ = some v := (grown_kept hg).cell hc hn

theorem ones4 (nm : ByteArray) (m : Int) : ∀ u ∈ (#[Value.int .i64 1, .string nm, .string { data := #[] }, .int .i64 m] : Array Value).toList, u.oneCell' = true := by
  intro u hu
  simp at hu
  rcases hu with rfl | rfl | rfl | rfl <;> rfl

set_option maxRecDepth 100000 in
set_option maxHeartbeats 3200000 in
theorem create_r (h : RdT w r R D) (hW : WD n D) (hn : n ≤ 90000) (hT : TOK D) (hl : D.fs.length ≤ 300) (nm : ByteArray) (hs : nm.size ≤ maxLen) :
    Calls Tryz.prog 52 #[.pointer (some ⟨r, 0, none⟩), .string nm] w fun e w' => e = .returned (.int .i64 (createP D nm).1) ∧ ∃ R', RGoes r w R D w' R' (createP D nm).2 := by
  have HK := hid (known_r h hW (by omega) hT nm hs)
  have H := hid h
  rcases pre1_cases D nm with ⟨q0, q1, q2⟩ | ⟨q0, q1, q2, q3⟩ | ⟨q0, q1, q2⟩
  · have hp : createP D nm = (7, D) := by simp [createP, strokeP, q1]
    rw [hp]
    rw [q0] at HK
    clear h hp q0 q1 q2
    go_enter Tryz.func52, Tryz.ntmps52
    go_wp2_with (
      go_at_call 103
      refine HK.out.mono ?_
      rintro e w1 ⟨⟨i, rfl, -⟩, hb1⟩
      have H1 := hid hb1
      clear hb1)
    go_ret
    exact ⟨rfl, R, RGoes.still H.out H1.out⟩
  · rw [q0] at HK
    have HS := hid (fun (W : World) (hb : Below w.heap.size w W) => stroke_r (h.below hb) hW (by omega) hl q2)
    by_cases hf : fe (fo D.fs (D.st + 1)) = 0
    · have hp : createP D nm = createK nm (cntS D) := by simp [createP, strokeP, q1, hf]
      rw [hp]
      have hb0 : ((6 : Int) == 0) = false := rfl
      rw [hf] at HS
      by_cases hlim : D.limit ≤ (D.files.length : Int)
      · have hp2 : createK nm (cntS D) = (9, cntS D) := by simp only [createK]; rw [if_pos]; exact hlim
        rw [hp2]
        have HLM := hid hlim
        clear h hp hp2 q0 q1 q2 q3 hf hlim
        go_enter Tryz.func52, Tryz.ntmps52
        go_upto_region 9 with (first
          | (go_at_call 103
             refine HK.out.mono ?_
             rintro e w1 ⟨⟨i, rfl, -⟩, hb1⟩
             have H1 := hid hb1
             clear hb1)
          | (go_at_call 104
             refine (HS.out _ H1.out).mono ?_
             rintro e w2 ⟨rfl, hr2, hk2⟩
             have H2 := hid (And.intro hr2 hk2)
             obtain ⟨c0, c1, c2, c3, c4, c5, c6, c7, c8, c9, c10⟩ := hr2.cells
             obtain ⟨al, cl, hlv⟩ := own_shape hr2.lis
             rw [hlv] at c3
             clear hr2 hk2 hlv c0 c2 c4 c5 c6 c7 c8 c9 c10))
        have hge := HLM.out
        replace c1 := (show w2.cell? ⟨r, 1, none⟩ = some (.int .i64 D.limit) from c1)
        replace c3 := (show w2.cell? ⟨r, 3, none⟩ = some (.slice al D.files.length cl) from c3)
        go_quiet (fail)
        go_wp2
        go_ret
        refine ⟨rfl, R, (RGoes.still H.out H1.out).trans ⟨H2.out.1.below (below_drewN (Below.refl _ _) _), ?_, fun _ e => .inl e⟩⟩
        exact (H2.out.2.mono (fun _ _ e => .inl e)).drewN _
      · have hp2 : createK nm (cntS D) = (0, { cntS D with made := D.made + 1, files := D.files ++ [⟨D.made + 1, [], []⟩], turns := D.turns ++ [(⟨#[]⟩, nm, D.made + 1)] }) := by simp only [createK]; rw [if_neg]; rfl; exact hlim
        rw [hp2]
        have HLM := hid hlim
        have hmd := hW.made
        clear h hp hp2 q0 q1 q2 q3 hf hlim
        go_enter Tryz.func52, Tryz.ntmps52
        go_upto_region 9 with (first
          | (go_at_call 103
             refine HK.out.mono ?_
             rintro e w1 ⟨⟨i, rfl, -⟩, hb1⟩
             have H1 := hid hb1
             clear hb1)
          | (go_at_call 104
             refine (HS.out _ H1.out).mono ?_
             rintro e w2 ⟨rfl, hr2, hk2⟩
             have H2 := hid (And.intro hr2 hk2)
             obtain ⟨c0, c1, c2, c3, c4, c5, c6, c7, c8, c9, c10⟩ := hr2.cells
             obtain ⟨al, cl, hlv⟩ := own_shape hr2.lis
             rw [hlv] at c3
             clear hr2 hk2 hlv c0 c2 c4 c5 c6 c7 c8 c9 c10))
        have hge := HLM.out
        replace c1 := (show w2.cell? ⟨r, 1, none⟩ = some (.int .i64 D.limit) from c1)
        replace c3 := (show w2.cell? ⟨r, 3, none⟩ = some (.slice al D.files.length cl) from c3)
        go_quiet (fail)
        have hb3 := below_drewN (Below.refl w2.heap.size w2) nq
        clear c1 c3
        have hr3 := H2.out.1.below hb3
        obtain ⟨c0, c1, c2, c3, c4, c5, c6, c7, c8, c9, c10⟩ := hr3.cells
        have hfz := hr3.free
        have H3 := hid hr3
        replace c2 := (show (w2.drewN nq).cell? ⟨r, 2, none⟩ = some (.int .i64 D.made) from c2)
        clear hr3 c0 c1 c3 c4 c5 c6 c7 c8 c9 c10
        go_upto_region 12 with fail
        have hk4 : Kept (fun k => k = r) (w2.drewN nq) ((w2.drewN nq).setCell ⟨r, 2, none⟩ (.int .i64 (D.made + 1))) := (Kept.refl (fun k => k = r) _).setCell (p := ⟨r, 2, none⟩) (fun _ => rfl) _
        have hr4 : RdT ((w2.drewN nq).setCell ⟨r, 2, none⟩ (.int .i64 (D.made + 1))) r R { cntS D with made := D.made + 1 } := H3.out.head hk4 H3.out.only (set_block (i := 2) H3.out.disk _) rfl rfl rfl rfl rfl
        refine cutG (fun W => RdT W r R { cntS D with made := D.made + 1 } ∧ Kept (fun k => k = r) w2 W) ⟨hr4, ((Kept.ofBelow hb3).mono (S' := fun k => k = r) (fun _ _ e => e.elim)).trans hk4 (fun _ _ e => e)⟩ ?_
        rintro W4 ⟨hr5, hk5⟩
        clear hr4 hk4 hb3 hfz c2 H3
        obtain ⟨c0, c1, c2, c3, c4, c5, c6, c7, c8, c9, c10⟩ := hr5.cells
        obtain ⟨al2, cl2, hlv⟩ := own_shape hr5.lis
        rw [hlv] at c3
        have hfz := hr5.free
        have H5 := hid (And.intro hr5 hk5)
        have HLV := hid (show R.lv = .slice al2 D.files.length cl2 from hlv)
        replace c2 := (show W4.cell? ⟨r, 2, none⟩ = some (.int .i64 (D.made + 1)) from c2)
        replace c3 := (show W4.cell? ⟨r, 3, none⟩ = some (.slice al2 D.files.length cl2) from c3)
        have HOL := hid (show W4.ownsRow 0 141 3 (.slice al2 D.files.length cl2) D.files.length (D.files.flatMap (rfcs R)) by have := hr5.lis; rw [hlv] at this; exact this)
        have hfl : D.files.length ≤ 1000 := by have h1 := hW.cnt; have h2 := hW.lim; omega
        clear hr5 hk5 hlv c0 c1 c4 c5 c6 c7 c8 c9 c10
        have hrl : r < W4.heap.size := World.block_lt_of_cell? _ _ c2
        have HNB := hid (show ∀ q, (Value.slice al2 D.files.length cl2).ownBlock = some q → q ≠ r from fun q e e2 => H5.out.1.r2 (e2 ▸ H5.out.1.fl q (by rw [HLV.out]; exact e)))
        go_cut [4] from 7 (fun v4 wc => v4 = .int .i64 0 ∧ Hid (∃ R7, RGoes r W4 R { cntS D with made := D.made + 1 } wc R7 { cntS D with made := D.made + 1, files := D.files ++ [⟨D.made + 1, [], []⟩] }))
        case first =>
          go_region_law
            (refine step_append_rf _ (by rfl) _ _ 54 141 _ 3 56 (by rfl) Tryz.underlying54 Tryz.info141 rfl (by omega) 0 (.slice al2 D.files.length cl2) D.files.length (D.files.flatMap (rfcs R)) (by rfl) (by first | exact (HOL.out.alloc _).drew | exact HOL.out.drew.alloc _ | exact HOL.out.alloc _) (.slice (some ⟨W4.heap.size, 0, none⟩) 1 1) 1 [.int .i64 (D.made + 1), .slice none 0 0, .slice none 0 0] (by rfl) (by first | exact Rf.below (rf_new W4 141 #[.int .i64 (D.made + 1), .slice none 0 0, .slice none 0 0] 3 rfl (by simp; exact ⟨rfl, rfl⟩)) ⟨rfl, rfl, rfl, Nat.le_refl _, fun _ _ => rfl⟩ | exact rf_new W4.drew 141 #[.int .i64 (D.made + 1), .slice none 0 0, .slice none 0 0] 3 rfl (by simp; exact ⟨rfl, rfl⟩)) (by omega) (by unfold maxLen; omega) (Nat.zero_le _) ?_; intro a6 c6 w6 hown hgr hob; have s1 := grown_cell hgr.out c2 (fun e => HNB.out _ e rfl); have s2 := grown_cell hgr.out c3 (fun e => HNB.out _ e rfl); have s3 : ∀ o, w6.frozen? ⟨r, o, none⟩ = false := fun o => free_of_block (hp_kept H5.out.1.disk (grown_kept hgr.out) (fun e => HNB.out _ e rfl)))
          all_goals
            have hk7 : Kept (fun q => q = r ∨ R.lv.ownBlock = some q) W4 (w6.setCell ⟨r, 3, none⟩ (.slice a6 (D.files.length + 1) c6)) := ((grown_kept hgr.out).mono (S' := fun q => q = r ∨ R.lv.ownBlock = some q) (fun q _ e => .inr (by rw [HLV.out]; exact e))).setCell (p := ⟨r, 3, none⟩) (fun _ => .inl rfl) _
            have hd7 := set_block (i := 3) (hp_kept H5.out.1.disk (grown_kept hgr.out) (fun e => HNB.out _ e rfl)) (.slice a6 (D.files.length + 1) c6)
            have ho7 : (w6.setCell ⟨r, 3, none⟩ (.slice a6 (D.files.length + 1) c6)).ownsRow 0 141 3 (.slice a6 (D.files.length + 1) c6) (D.files.length + 1) (D.files.flatMap (rfcs R) ++ [.int .i64 (D.made + 1), .slice none 0 0, .slice none 0 0]) := ownsRow_kept hown.out ((Kept.refl (fun q => q = r) w6).setCell (p := ⟨r, 3, none⟩) (fun _ => rfl) _) (fun q e e2 => by
              obtain ⟨cu, h1⟩ := owns_ty hown.out e
              have h2 := hp_kept H5.out.1.disk (grown_kept hgr.out) (fun e => HNB.out _ e rfl)
              rw [e2, h2] at h1
              injection h1 with h1
              injection h1 with _ h1
              exact absurd h1 (by decide))
            obtain ⟨R7, hg7⟩ := H5.out.1.addF (D.made + 1) (fun f hf => by have := (hW.rng f hf).2; omega) hd7 ho7 hk7 (fun q e => by
              rcases hob.out with e2 | e2
              · left; have e3 := e2.symm.trans e; rw [HLV.out]; exact e3
              · right; rw [e2] at e; injection e with e; rw [← e]; simp)
            have H7 := hid hg7
            clear hk7 hd7 ho7 hg7 s1 s2 s3 hown hgr hob
            go_wp2_with fail
            go_meet
            case rel => exact ⟨rfl, hid ⟨R7, H7.out⟩⟩
        case rest =>
          obtain ⟨rfl, hc⟩ := hcut
          obtain ⟨R8, hg8⟩ := hc.out
          rename World => W8
          clear hc c2 c3 hfz hrl HNB HOL HLV
          obtain ⟨c0, c1, c2, c3, c4, c5, c6', c7, c8, c9, c10⟩ := hg8.rd.cells
          obtain ⟨at2, ct2, htv⟩ := own_shape hg8.rd.tur
          rw [htv] at c5
          have hfz := hg8.rd.free
          have H8 := hid hg8
          have HTV := hid (show R8.tv = .slice at2 D.turns.length ct2 from htv)
          replace c2 := (show W8.cell? ⟨r, 2, none⟩ = some (.int .i64 (D.made + 1)) from c2)
          replace c5 := (show W8.cell? ⟨r, 5, none⟩ = some (.slice at2 D.turns.length ct2) from c5)
          have HOT := hid (show W8.ownsRow 0 146 4 (.slice at2 D.turns.length ct2) D.turns.length (D.turns.flatMap tncs) by have := hg8.rd.tur; rw [htv] at this; exact this)
          have htl : D.turns.length ≤ 100000 := by have h1 := hW.tur; omega
          have HNT := hid (show ∀ q, (Value.slice at2 D.turns.length ct2).ownBlock = some q → q ≠ r from fun q e e2 => H8.out.rd.r2 (e2 ▸ H8.out.rd.fu q (by rw [HTV.out]; exact e)))
          have hrl8 : r < W8.heap.size := World.block_lt_of_cell? _ _ c2
          clear hg8 htv c0 c1 c3 c4 c6' c7 c8 c9 c10
          go_upto_region 13 with fail
          go_region_law
            (refine step_append_rf _ (by rfl) _ _ 56 146 _ 4 48 (by rfl) Tryz.underlying56 Tryz.info146 rfl (by omega) 0 (.slice at2 D.turns.length ct2) D.turns.length (D.turns.flatMap tncs) (by rfl) (by first | exact (HOT.out.alloc _).drew | exact HOT.out.drew.alloc _ | exact HOT.out.alloc _) (.slice (some ⟨W8.heap.size, 0, none⟩) 1 1) 1 [.int .i64 1, .string nm, .string { data := #[] }, .int .i64 (D.made + 1)] (by rfl) (by first | exact Rf.below (rf_new W8 146 #[.int .i64 1, .string nm, .string { data := #[] }, .int .i64 (D.made + 1)] 4 rfl (ones4 nm _)) ⟨rfl, rfl, rfl, Nat.le_refl _, fun _ _ => rfl⟩ | exact rf_new W8.drew 146 #[.int .i64 1, .string nm, .string { data := #[] }, .int .i64 (D.made + 1)] 4 rfl (ones4 nm _)) (by omega) (by unfold maxLen; omega) (Nat.zero_le _) ?_; intro a9 c9 w9 hown hgr hob; have s1 := grown_cell hgr.out c2 (fun e => HNT.out _ e rfl); have s2 := grown_cell hgr.out c5 (fun e => HNT.out _ e rfl); have s3 : ∀ o, w9.frozen? ⟨r, o, none⟩ = false := fun o => free_of_block (hp_kept H8.out.rd.disk (grown_kept hgr.out) (fun e => HNT.out _ e rfl)))
          all_goals
            have hk7 : Kept (fun q => q = r ∨ R8.tv.ownBlock = some q) W8 (w9.setCell ⟨r, 5, none⟩ (.slice a9 (D.turns.length + 1) c9)) := ((grown_kept hgr.out).mono (S' := fun q => q = r ∨ R8.tv.ownBlock = some q) (fun q _ e => .inr (by rw [HTV.out]; exact e))).setCell (p := ⟨r, 5, none⟩) (fun _ => .inl rfl) _
            have hd7 := set_block (i := 5) (hp_kept H8.out.rd.disk (grown_kept hgr.out) (fun e => HNT.out _ e rfl)) (.slice a9 (D.turns.length + 1) c9)
            have ho7 : (w9.setCell ⟨r, 5, none⟩ (.slice a9 (D.turns.length + 1) c9)).ownsRow 0 146 4 (.slice a9 (D.turns.length + 1) c9) (D.turns.length + 1) (D.turns.flatMap tncs ++ [.int .i64 1, .string nm, .string { data := #[] }, .int .i64 (D.made + 1)]) := ownsRow_kept hown.out ((Kept.refl (fun q => q = r) w9).setCell (p := ⟨r, 5, none⟩) (fun _ => rfl) _) (fun q e e2 => by
              obtain ⟨cu, h1⟩ := owns_ty hown.out e
              have h2 := hp_kept H8.out.rd.disk (grown_kept hgr.out) (fun e => HNT.out _ e rfl)
              rw [e2, h2] at h1
              injection h1 with h1
              injection h1 with _ h1
              exact absurd h1 (by decide))
            obtain ⟨R9, hg9⟩ := H8.out.rd.addT (⟨#[]⟩, nm, D.made + 1) hd7 (by rw [tncs_create]; exact ho7) hk7 (fun q e => by
              rcases hob.out with e2 | e2
              · left; have e3 := e2.symm.trans e; rw [HTV.out]; exact e3
              · right; rw [e2] at e; injection e with e; rw [← e]; simp)
            have H9 := hid hg9
            clear hk7 hd7 ho7 hg9 s1 s2 s3
            go_wp2
            go_ret
            exact ⟨rfl, R9, ((RGoes.still H.out H1.out).trans ⟨H2.out.1, H2.out.2.mono (fun _ _ e => .inl e), fun _ e => .inl e⟩).trans (RGoes.trans ⟨H5.out.1, H5.out.2.mono (fun _ _ e => .inl e), fun _ e => .inl e⟩ (H8.out.trans H9.out))⟩
    · have hp : createP D nm = (fe (fo D.fs (D.st + 1)), cntS D) := by simp [createP, strokeP, q1, hf]
      rw [hp]
      have hb0 : (fe (fo D.fs (D.st + 1)) == 0) = false := by simpa using hf
      clear h hp q0 q1 q2 q3 hf
      generalize fe (fo D.fs (D.st + 1)) = er at HS hb0 ⊢
      go_enter Tryz.func52, Tryz.ntmps52
      go_wp2_with (first
        | (go_at_call 103
           refine HK.out.mono ?_
           rintro e w1 ⟨⟨i, rfl, -⟩, hb1⟩
           have H1 := hid hb1
           clear hb1)
        | (go_at_call 104
           refine (HS.out _ H1.out).mono ?_
           rintro e w2 ⟨rfl, hr2, hk2⟩
           have H2 := hid (And.intro hr2 hk2)
           clear hr2 hk2))
      go_ret
      exact ⟨rfl, R, (RGoes.still H.out H1.out).trans ⟨H2.out.1, H2.out.2.mono (fun _ _ e => .inl e), fun _ e => .inl e⟩⟩
  · have hp : createP D nm = (pre1 D nm false 0, D) := by
      rw [← q2] at q0 q1 ⊢
      simp [createP, strokeP, q0]
    rw [hp]
    have hb0 : (pre1 D nm false 0 == 0) = false := by simpa using q0
    have hb1' : (pre1 D nm false 0 == 6) = false := by simpa using q1
    clear h hp q0 q1 q2
    generalize pre1 D nm false 0 = er at HK hb0 hb1' ⊢
    go_enter Tryz.func52, Tryz.ntmps52
    go_wp2_with (
      go_at_call 103
      refine HK.out.mono ?_
      rintro e w1 ⟨⟨i, rfl, -⟩, hb1⟩
      have H1 := hid hb1
      clear hb1)
    go_ret
    exact ⟨rfl, R, RGoes.still H.out H1.out⟩

end

end Go.Proofs.YtlmompdfombgeaaGreat
