import Derived.Test.YtlmompdfombgeaaGreatK29
import Derived.Test.YtlmompdfombgeaaGreatK28
namespace Go.Proofs.YtlmompdfombgeaaGreat
open Go.RowKit Go.MapKept

section
variable {w w' : World} {r : Nat} {R : Rt} {D : Dq} {n : Nat}

theorem Tryz.info148 : (Tryz.prog.info? 148).map (fun i => (i.zero, i.size, i.bytes)) = some (some (.agg #[.bool false, .int .i64 0, .slice none 0 0]), 3, 40) := by kernel_rfl

theorem pre1_sz (D : Dq) (nm : ByteArray) (sz : Int) : (pre1 D nm false 0 ≠ 0 ∧ pre1 D nm false sz = pre1 D nm false 0) ∨ (pre1 D nm false 0 = 0 ∧ ∃ f, D.look nm = some f ∧ ((sz < 0 ∨ (f.row.1.length : Int) < sz) ∧ pre1 D nm false sz = 1 ∨ (0 ≤ sz ∧ sz ≤ (f.row.1.length : Int)) ∧ pre1 D nm false sz = 0)) := by
  unfold pre1
  cases D.off
  · cases nmOK nm
    · left; simp
    · cases D.look nm with
      | none => left; simp
      | some f =>
        right
        refine ⟨by simp, f, rfl, ?_⟩
        by_cases hz : sz < 0 ∨ (f.row.1.length : Int) < sz
        · left; simp [hz]
        · right; simp [hz]; omega
  · left; simp

theorem ones3 (a b c : Value) (h1 : a.oneCell' = true) (h2 : b.oneCell' = true) (h3 : c.oneCell' = true) : ∀ u ∈ (#[a, b, c] : Array Value).toList, u.oneCell' = true := by
  intro u hu
  simp at hu
  rcases hu with rfl | rfl | rfl
  · exact h1
  · exact h2
  · exact h3

/-- The row of a file's changes, and what a change more makes of the disk. -/
theorem RdT.more (h : RdT w r R D) (hW : WD n D) {i : Nat} {f : Fi} (hi : D.files[i]? = some f) {b cl : Nat} (hlv : R.lv = .slice (some ⟨b, 0, none⟩) D.files.length cl) {ap : Option Addr} {cp : Nat} (hpv : R.pv f.no = .slice ap f.cs.length cp) :
    w.ownsRow 0 148 3 (.slice ap f.cs.length cp) f.cs.length ((R.ps f.no).flatMap ccs) ∧ ∀ (w9 : World) (c : Chg) (dv : Value) (a9 : Option Addr) (c9 : Nat), Kept (fun q => (Value.slice ap f.cs.length cp).ownBlock = some q) w w9 → w9.ownsRow 0 148 3 (.slice a9 (f.cs.length + 1) c9) (f.cs.length + 1) ((R.ps f.no).flatMap ccs ++ ccs (c, dv)) →
      (∀ q, (Value.slice a9 (f.cs.length + 1) c9).ownBlock = some q → (Value.slice ap f.cs.length cp).ownBlock = some q ∨ w.heap.size ≤ q) → ((∃ k, c = .inr k ∧ dv = .slice none 0 0) ∨ ∃ ys, c = .inl ys ∧ w9.ownsRow w.heap.size 5 1 dv ys.length (B8 ys)) →
      w9.cell? ⟨r, 3, none⟩ = some (.slice (some ⟨b, 0, none⟩) D.files.length cl) ∧ (∀ o, w9.frozen? ⟨b, o, none⟩ = false) ∧ w9.cell? ⟨b, i * 3 + 2, none⟩ = some (.slice ap f.cs.length cp) ∧ (∀ u, (w9.setCell ⟨b, i * 3 + 2, none⟩ u).cell? ⟨r, 3, none⟩ = some (.slice (some ⟨b, 0, none⟩) D.files.length cl)) ∧
      ∃ R', RGoes r w R D (w9.setCell ⟨b, i * 3 + 2, none⟩ (.slice a9 (f.cs.length + 1) c9)) R' { D with files := Go.Proofs.YtlmompdfombgeaaGreat.setF { f with cs := f.cs ++ [c] } D.files } := by
  have hfl : D.files.length ≤ 1000 := by have h1 := hW.cnt; have h2 := hW.lim; omega
  have hf := List.mem_of_getElem? hi
  refine ⟨by have := h.pen f hf; rw [hpv] at this; exact this, fun w9 c dv a9 c9 hk9 h9 hob hdv => ?_⟩
  obtain ⟨b', cl', e, -, hbr, hbl, hcc⟩ := h.fcell hfl hi
  rw [hlv] at e
  injection e with e1 e2 e3
  injection e1 with e1
  injection e1 with e1 _
  subst e1 e3
  obtain ⟨c3, y0, y1, y2, hfz⟩ := hcc w (Below.refl _ _)
  have hk9' : Kept (fun q => (R.pv f.no).ownBlock = some q) w w9 := by rw [hpv]; exact hk9
  have hb9 : ¬ (R.pv f.no).ownBlock = some b := fun e => owns_ne (h.pen f hf) h.lis (by decide) b e (by rw [hlv]; rfl)
  have hrk : ¬ (R.pv f.no).ownBlock = some r := fun e => h.r2 (h.fp f hf r e)
  have hl9 := ownsRow_kept h.lis hk9' (fun k e e2 => owns_ne h.lis (h.pen f hf) (by decide) k e e2)
  rw [hlv] at hl9
  obtain ⟨R', hg, -⟩ := h.pended hW.nd hi hk9' h9 (by rw [hpv]; exact hob) hdv hlv
  have s1 := hk9'.cell c3 hrk
  rw [hpv] at y2
  refine ⟨s1, hl9.frozenAt, hk9'.cell y2 hb9, fun u => ?_, R', hg⟩
  exact ((Kept.refl (fun q => q = b) w9).setCell (p := ⟨b, i * 3 + 2, none⟩) (fun _ => rfl) u).cell s1 (fun e => hbr e.symm)

set_option maxRecDepth 100000 in
set_option maxHeartbeats 6400000 in
theorem cut_r (h : RdT w r R D) (hW : WD n D) (hn : n ≤ 90000) (hT : TOK D) (hl : D.fs.length ≤ 300) (nm : ByteArray) (hs : nm.size ≤ maxLen) (sz : Int) :
    Calls Tryz.prog 54 #[.pointer (some ⟨r, 0, none⟩), .string nm, .int .i64 sz] w fun e w' => e = .returned (.int .i64 (cutP D nm sz).1) ∧ ∃ R', RGoes r w R D w' R' (cutP D nm sz).2 := by
  have HK := hid (known_r h hW (by omega) hT nm hs)
  have H := hid h
  rcases pre1_sz D nm sz with ⟨q0, q1⟩ | ⟨q0, f, hlk, hcase⟩
  · have hp : cutP D nm sz = (pre1 D nm false 0, D) := by simp [cutP, strokeP, q1, q0]
    rw [hp]
    have hb0 : (pre1 D nm false 0 == 0) = false := by simpa using q0
    clear h hp q0 q1
    generalize pre1 D nm false 0 = er at HK hb0 ⊢
    go_enter Tryz.func54, Tryz.ntmps54
    go_wp2_with (
      go_at_call 103
      refine HK.out.mono ?_
      rintro e w1 ⟨⟨i, rfl, -⟩, hb1⟩
      have H1 := hid hb1
      clear hb1)
    go_ret
    exact ⟨rfl, R, RGoes.still H.out H1.out⟩
  · rw [q0] at HK
    obtain ⟨q2, q3⟩ := pre1_zero q0
    have HLK := hid hlk
    have hfl : D.files.length ≤ 1000 := by have h1 := hW.cnt; have h2 := hW.lim; omega
    have HWD := hid hW
    have HLEN := hid (fun (W : World) (hb : Below w.heap.size w W) (hm : f ∈ D.files) => (h.below hb).len_r hW (by omega) hm W (Below.refl _ _))
    have HCC := hid (fun (i : Nat) (hi : D.files[i]? = some f) => h.fcell hfl hi)
    have HSA := hid (fun (hm : f ∈ D.files) => And.intro (h.saf f hm) (h.pen f hm))
    have HS := hid (fun (W : World) (hb : Below w.heap.size w W) => stroke_r (h.below hb) hW (by omega) hl q2)
    have hpk : f.row.1.length ≤ 4194304 := by
      have h1 := hW.peak (look_mem hlk).1
      have h2 := row_le_peak f.safe f.cs
      unfold Fi.peak at h1
      unfold Fi.row
      omega
    rcases hcase with ⟨hz, q1⟩ | ⟨hz, q1⟩
    · have hp : cutP D nm sz = (1, D) := by simp [cutP, strokeP, q1]
      rw [hp]
      clear h hp q0 q1 q2 q3 hW hlk
      go_enter Tryz.func54, Tryz.ntmps54
      go_upto_region 4 with (
        go_at_call 103
        refine HK.out.mono ?_
        rintro e w1 ⟨⟨i, rfl, hi⟩, hb1⟩
        obtain ⟨f', hlk, hfi⟩ := hi rfl
        have hff : f' = f := by rw [HLK.out] at hlk; exact (Option.some.inj hlk).symm
        have H1 := hid (And.intro hb1 (hff ▸ hfi))
        clear hb1 hi hlk hfi hff)
      obtain ⟨b, cl, hlv, hcl, hbr, hbl, hcc⟩ := HCC.out i H1.out.2
      obtain ⟨c3, y0, y1, y2, -⟩ := hcc w1 H1.out.1
      have hmem : f ∈ D.files := List.mem_of_getElem? H1.out.2
      have hil : i < D.files.length := (List.getElem?_eq_some_iff.1 H1.out.2).1
      have i1 : (i : Int) < (D.files.length : Int) := by omega
      obtain ⟨ap, cp2, hpv⟩ := own_shape (HSA.out hmem).2
      obtain ⟨abv, cbv, hbv, -, -⟩ := (HSA.out hmem).1.1
      have hln := HLEN.out w1 H1.out.1 hmem
      rw [hpv, hbv] at hln
      rw [hpv] at y2
      rw [hbv] at y1
      obtain ⟨L, hL⟩ : ∃ L : Nat, L = f.row.1.length := ⟨_, rfl⟩
      rw [← hL] at hln hz hpk
      have HLN := hid hln
      clear hln hlv hcc hpv hbv hmem hL
      have hz1 : (decide (sz < 0) || decide ((L : Int) < sz)) = true := by simpa using hz
      rcases hz with hz | hz
      · go_wp2_with (
          go_at_call 101
          refine HLN.out.mono ?_
          rintro e w2 ⟨rfl, hb2⟩
          have H2 := hid hb2
          clear hb2)
        go_ret
        exact ⟨rfl, R, RGoes.still H.out (bel_on H1.out.1 H2.out)⟩
      · have hz2 : ¬ sz < 0 := by omega
        go_wp2_with (
          go_at_call 101
          refine HLN.out.mono ?_
          rintro e w2 ⟨rfl, hb2⟩
          have H2 := hid hb2
          clear hb2)
        go_ret
        exact ⟨rfl, R, RGoes.still H.out (bel_on H1.out.1 H2.out)⟩
    · obtain ⟨m, rfl⟩ : ∃ m : Nat, sz = (m : Int) := ⟨sz.toNat, by omega⟩
      have hml : m ≤ f.row.1.length := by omega
      by_cases hf : fe (fo D.fs (D.st + 1)) = 0
      · rw [hf] at HS
        have hp : cutP D nm m = (0, if m < f.row.1.length then { cntS D with files := setF { f with cs := f.cs ++ [.inr m] } (cntS D).files } else cntS D) := by
          have e : (cntS D).look nm = some f := hlk
          simp [cutP, strokeP, q1, hf, cutK, e]
        obtain ⟨L, hL⟩ : ∃ L : Nat, L = f.row.1.length := ⟨_, rfl⟩
        rw [← hL] at hp hml hpk
        obtain ⟨res, hres⟩ : ∃ res, res = cutP D nm m := ⟨_, rfl⟩
        rw [← hres] at hp ⊢
        have HRES := hid hp
        have HL := hid hL
        clear h hp q0 q1 q2 q3 hW hlk hz hf hL hres
        go_enter Tryz.func54, Tryz.ntmps54
        go_upto_region 4 with (
          go_at_call 103
          refine HK.out.mono ?_
          rintro e w1 ⟨⟨i, rfl, hi⟩, hb1⟩
          obtain ⟨f', hlk, hfi⟩ := hi rfl
          have hff : f' = f := by rw [HLK.out] at hlk; exact (Option.some.inj hlk).symm
          have H1 := hid (And.intro hb1 (hff ▸ hfi))
          clear hb1 hi hlk hfi hff)
        obtain ⟨b, cl, hlv, hcl, hbr, hbl, hcc⟩ := HCC.out i H1.out.2
        obtain ⟨c3, y0, y1, y2, -⟩ := hcc w1 H1.out.1
        have hmem : f ∈ D.files := List.mem_of_getElem? H1.out.2
        have hil : i < D.files.length := (List.getElem?_eq_some_iff.1 H1.out.2).1
        have i1 : (i : Int) < (D.files.length : Int) := by omega
        obtain ⟨ap, cp2, hpv⟩ := own_shape (HSA.out hmem).2
        obtain ⟨abv, cbv, hbv, -, -⟩ := (HSA.out hmem).1.1
        have hln := HLEN.out w1 H1.out.1 hmem
        rw [hpv, hbv] at hln
        rw [hpv] at y2
        rw [hbv] at y1
        have HLV := hid (And.intro hlv hpv)
        rw [← HL.out] at hln
        have HLN := hid hln
        clear hln hlv hcc hpv hbv
        have hz1 : ¬ (L : Int) < (m : Int) := by omega
        have hz2 : ¬ (m : Int) < 0 := by omega
        by_cases hlt : m < L
        · have hlt2 : (m : Int) < (L : Int) := by omega
          go_upto_region 11 with (first
            | (go_at_call 101
               refine HLN.out.mono ?_
               rintro e w2 ⟨rfl, hb2⟩
               have H2 := hid (bel_on H1.out.1 hb2)
               clear hb2)
            | (go_at_call 104
               refine (HS.out _ H2.out).mono ?_
               rintro e w3 ⟨rfl, hr3, hk3⟩
               have H3 := hid (And.intro hr3 hk3)
               clear hr3 hk3))
          clear c3 y0 y1 y2
          obtain ⟨hop, hmo⟩ := H3.out.1.more (cntS_WD' HWD.out) (i := i) (f := f) H1.out.2 HLV.out.1 HLV.out.2
          have hcs := (HWD.out.chg f hmem).1
          obtain ⟨b', cl', hlv', -, -, -, hcc⟩ := H3.out.1.fcell (i := i) (f := f) hfl H1.out.2
          rw [HLV.out.1] at hlv'
          injection hlv' with e1 e2 e3
          injection e1 with e1
          injection e1 with e1 _
          subst e1 e3
          clear e2
          obtain ⟨c3, y0, y1, y2, -⟩ := hcc w3 (Below.refl _ _)
          rw [HLV.out.2] at y2
          replace c3 := (show w3.cell? ⟨r, 3, none⟩ = some (.slice (some ⟨b, 0, none⟩) D.files.length cl) from c3)
          have HC3 := hid (fun (W : World) (hb : Below w3.heap.size w3 W) => (show W.cell? ⟨r, 3, none⟩ = some (.slice (some ⟨b, 0, none⟩) D.files.length cl) from (hcc W hb).1))
          have HOP := hid hop
          have HMO := hid hmo
          have hbl3 : b < w3.heap.size := World.block_lt_of_cell? _ _ y2
          have hrl3 : r < w3.heap.size := World.block_lt_of_cell? _ _ c3
          clear hop hmo hcc y0 y1 hmem
          go_region_law
            ((refine step_append_rf _ (by rfl) _ _ 139 148 _ 3 40 (by rfl) Tryz.underlying139 Tryz.info148 rfl (by omega) 0 (.slice ap f.cs.length cp2) f.cs.length ((R.ps f.no).flatMap ccs) (by rfl) (by first | exact (HOP.out.alloc _).drew | exact HOP.out.drew.alloc _ | exact HOP.out.alloc _) (.slice (some ⟨w3.heap.size, 0, none⟩) 1 1) 1 [.bool true, .int .i64 m, .slice none 0 0] (by rfl) (by first | exact Rf.below (rf_new w3 148 #[.bool true, .int .i64 m, .slice none 0 0] 3 rfl (ones3 _ _ _ rfl rfl rfl)) ⟨rfl, rfl, rfl, Nat.le_refl _, fun _ _ => rfl⟩ | exact rf_new w3.drew 148 #[.bool true, .int .i64 m, .slice none 0 0] 3 rfl (ones3 _ _ _ rfl rfl rfl)) (by omega) (by unfold maxLen; omega) (Nat.zero_le _) ?_; intro a9 c9 w9 hown hgr hob; have hmo := HMO.out w9 (.inr m) (.slice none 0 0) a9 c9 (grown_kept hgr.out) hown.out (fun q e => by rcases hob.out with e2 | e2; (left; exact e2.symm.trans e); (right; rw [e2] at e; injection e with e; rw [← e]; simp)) (.inl ⟨m, rfl, rfl⟩); obtain ⟨s1, s3, s2, s4, hR⟩ := hmo; replace s1 := (show w9.cell? ⟨r, 3, none⟩ = some (.slice (some ⟨b, 0, none⟩) D.files.length cl) from s1); have HR := hid hR; clear hR s4 hown hgr hob))
          all_goals
            go_wp2
            go_ret
            obtain ⟨R9, hg9⟩ := HR.out
            have hres := HRES.out
            rw [if_pos hlt] at hres
            rw [hres]
            exact ⟨rfl, R9, ((RGoes.still H.out H2.out).trans ⟨H3.out.1, H3.out.2.mono (fun _ _ e => .inl e), fun _ e => .inl e⟩).trans hg9⟩
        · have hlt2 : ¬ (m : Int) < (L : Int) := by omega
          go_wp2_with (first
            | (go_at_call 101
               refine HLN.out.mono ?_
               rintro e w2 ⟨rfl, hb2⟩
               have H2 := hid (bel_on H1.out.1 hb2)
               clear hb2)
            | (go_at_call 104
               refine (HS.out _ H2.out).mono ?_
               rintro e w3 ⟨rfl, hr3, hk3⟩
               have H3 := hid (And.intro hr3 hk3)
               clear hr3 hk3))
          go_ret
          have hres := HRES.out
          rw [if_neg hlt] at hres
          rw [hres]
          exact ⟨rfl, R, (RGoes.still H.out H2.out).trans ⟨H3.out.1, H3.out.2.mono (fun _ _ e => .inl e), fun _ e => .inl e⟩⟩
      · have hp : cutP D nm m = (fe (fo D.fs (D.st + 1)), cntS D) := by simp [cutP, strokeP, q1, hf]
        rw [hp]
        have hb0 : (fe (fo D.fs (D.st + 1)) == 0) = false := by simpa using hf
        clear h hp q0 q1 q2 q3 hW hlk hz hf
        generalize fe (fo D.fs (D.st + 1)) = er at HS hb0 ⊢
        go_enter Tryz.func54, Tryz.ntmps54
        go_upto_region 4 with (
          go_at_call 103
          refine HK.out.mono ?_
          rintro e w1 ⟨⟨i, rfl, hi⟩, hb1⟩
          obtain ⟨f', hlk, hfi⟩ := hi rfl
          have hff : f' = f := by rw [HLK.out] at hlk; exact (Option.some.inj hlk).symm
          have H1 := hid (And.intro hb1 (hff ▸ hfi))
          clear hb1 hi hlk hfi hff)
        obtain ⟨b, cl, hlv, hcl, hbr, hbl, hcc⟩ := HCC.out i H1.out.2
        obtain ⟨c3, y0, y1, y2, -⟩ := hcc w1 H1.out.1
        have hmem : f ∈ D.files := List.mem_of_getElem? H1.out.2
        have hil : i < D.files.length := (List.getElem?_eq_some_iff.1 H1.out.2).1
        have i1 : (i : Int) < (D.files.length : Int) := by omega
        obtain ⟨ap, cp2, hpv⟩ := own_shape (HSA.out hmem).2
        obtain ⟨abv, cbv, hbv, -, -⟩ := (HSA.out hmem).1.1
        have hln := HLEN.out w1 H1.out.1 hmem
        rw [hpv, hbv] at hln
        rw [hpv] at y2
        rw [hbv] at y1
        obtain ⟨L, hL⟩ : ∃ L : Nat, L = f.row.1.length := ⟨_, rfl⟩
        rw [← hL] at hln hml hpk
        have HLN := hid hln
        clear hln hlv hcc hpv hbv hL hmem
        have hz1 : ¬ (L : Int) < (m : Int) := by omega
        have hz2 : ¬ (m : Int) < 0 := by omega
        go_wp2_with (first
          | (go_at_call 101
             refine HLN.out.mono ?_
             rintro e w2 ⟨rfl, hb2⟩
             have H2 := hid (bel_on H1.out.1 hb2)
             clear hb2)
          | (go_at_call 104
             refine (HS.out _ H2.out).mono ?_
             rintro e w3 ⟨rfl, hr3, hk3⟩
             have H3 := hid (And.intro hr3 hk3)
             clear hr3 hk3))
        go_ret
        exact ⟨rfl, R, (RGoes.still H.out H2.out).trans ⟨H3.out.1, H3.out.2.mono (fun _ _ e => .inl e), fun _ e => .inl e⟩⟩

end

end Go.Proofs.YtlmompdfombgeaaGreat

namespace Go.Proofs.YtlmompdfombgeaaGreat
open Go.RowKit Go.MapKept

section
variable {w w' : World} {r : Nat} {R : Rt} {D : Dq} {n : Nat}

set_option maxRecDepth 100000 in
set_option maxHeartbeats 1600000 in
theorem copied_r (ao : Option Addr) (cap : Nat) (ys : List Int) (w : World) (hs : Sn w (.slice ao ys.length cap) ys) (hl : ys.length ≤ 10000000) :
    Calls Tryz.prog 105 #[.slice ao ys.length cap] w fun e w' => ∃ v, e = .returned v ∧ w'.ownsRow w.heap.size 5 1 v ys.length (B8 ys) ∧ Below w.heap.size w w' := by
  have HS := hid hs
  clear hs
  go_enter Tryz.func105, Tryz.ntmps105
  go_wp2_with (
    at_builtin
    refine wpList_append_sn _ rfl (.tmp 4) (.tmp 5) 35 5 Tryz.underlying35 rfl w.heap.size (.slice none 0 0) 0 [] rfl (owns_nil _ _ _ _) (.slice ao ys.length cap) ys rfl HS.out (by omega) (Nat.le_refl _) ?_
    intro a1 c1 w1 hown hgr hob
    have H1 := hid (show w1.ownsRow w.heap.size 5 1 (.slice a1 ys.length c1) ys.length (B8 ys) ∧ Below w.heap.size w w1 by have h1 := And.intro hown.out (grow_ab0 (Below.refl w.heap.size w) (Nat.le_refl _) (owns_nil w w.heap.size 5 1) hgr.out); simp only [Nat.zero_add, List.nil_append] at h1; exact h1)
    clear hown hgr hob)
  go_ret
  first | exact ⟨_, rfl, H1.out⟩ | exact ⟨_, by simp only [Nat.zero_add], H1.out⟩

set_option maxRecDepth 100000 in
set_option maxHeartbeats 6400000 in
theorem app_r (h : RdT w r R D) (hW : WD n D) (hn : n ≤ 90000) (hT : TOK D) (hl : D.fs.length ≤ 300) (nm : ByteArray) (hs : nm.size ≤ maxLen) (ao : Option Addr) (cap : Nat) (ys : List Int) (hsl : Sn w (.slice ao ys.length cap) ys) (hne : ys ≠ [] → ∀ k, (Value.slice ao ys.length cap).ownBlock = some k → ¬ Rft r R k) (hy : ys.length ≤ 1000000) :
    Calls Tryz.prog 53 #[.pointer (some ⟨r, 0, none⟩), .string nm, .slice ao ys.length cap] w fun e w' => e = .returned (.int .i64 (appP D nm ys).1) ∧ ∃ R', RGoes r w R D w' R' (appP D nm ys).2 := by
  have HK := hid (known_r h hW (by omega) hT nm hs)
  have H := hid h
  by_cases q0 : pre1 D nm false 0 = 0
  · rw [q0] at HK
    obtain ⟨q2, q3⟩ := pre1_zero q0
    obtain ⟨f, hlk, -⟩ := pre1_lk q0
    have HS := hid (fun (W : World) (hb : Below w.heap.size w W) => stroke_r (h.below hb) hW (by omega) hl q2)
    by_cases hf : fe (fo D.fs (D.st + 1)) = 0
    · have hp : appP D nm ys = (if D.room < (heldD D : Int) - f.peak + max (f.peak : Int) ((f.row.1.length : Int) + ys.length) then (8, cntS D) else if ys.length = 0 then (0, cntS D) else (0, { cntS D with files := setF { f with cs := f.cs ++ [.inl ys] } (cntS D).files })) := by
        have e : (cntS D).look nm = some f := hlk
        simp only [appP, strokeP, q0, hf, appK, e]
        rfl
      obtain ⟨res, hres⟩ : ∃ res, res = appP D nm ys := ⟨_, rfl⟩
      rw [← hres] at hp ⊢
      clear hres
      rw [hf] at HS
      have HLK := hid hlk
      have hfl : D.files.length ≤ 1000 := by have h1 := hW.cnt; have h2 := hW.lim; omega
      have HWD := hid hW
      have HSL := hid (And.intro hsl hne)
      have hroom := hW.room
      have hP1 : f.row.1.length ≤ f.peak := row_le_peak f.safe f.cs
      have hP2 : f.peak ≤ heldD D := peak_le_sum (look_mem hlk).1
      have hP3 : ((heldD D : Nat) : Int) ≤ D.room := hW.hld
      obtain ⟨Y, hY⟩ : ∃ Y : Nat, Y = ys.length := ⟨_, rfl⟩
      rw [← hY] at hp hy ⊢
      have HY := hid hY
      have HRES := hid hp
      clear hY h hp q0 q2 q3 hf hlk hW hsl hne
      go_enter Tryz.func53, Tryz.ntmps53
      go_upto_region 7 with (first
        | (go_at_call 103
           refine HK.out.mono ?_
           rintro e w1 ⟨⟨i, rfl, hi⟩, hb1⟩
           obtain ⟨f', hlk, hfi⟩ := hi rfl
           have hff : f' = f := by rw [HLK.out] at hlk; exact (Option.some.inj hlk).symm
           have H1 := hid (And.intro hb1 (hff ▸ hfi))
           clear hb1 hi hlk hfi hff)
        | (go_at_call 104
           refine (HS.out _ H1.out.1).mono ?_
           rintro e w2 ⟨rfl, hr2, hk2⟩
           have H2 := hid (And.intro hr2 hk2)
           clear hr2 hk2))
      obtain ⟨b, cl, hlv, hcl, hbr, hbl, hcc⟩ := H2.out.1.fcell (i := i) (f := f) hfl H1.out.2
      have hmem : f ∈ D.files := List.mem_of_getElem? H1.out.2
      have hil : i < D.files.length := (List.getElem?_eq_some_iff.1 H1.out.2).1
      obtain ⟨ap, cp2, hpv⟩ := own_shape (H2.out.1.pen f hmem)
      obtain ⟨abv, cbv, hbv, -, -⟩ := (H2.out.1.saf f hmem).1
      have hln := H2.out.1.len_r (cntS_WD' HWD.out) (by omega) hmem w2 (Below.refl _ _)
      have hhd := fun (W : World) (hb : Below w2.heap.size w2 W) => held_r (H2.out.1.below hb) (cntS_WD' HWD.out) (by omega)
      rw [hpv, hbv] at hln
      rw [show heldD (cntS D) = heldD D from rfl] at hhd
      rw [hpv, hbv] at hcc
      have HLV := hid (And.intro hlv hpv)
      have hcs := (HWD.out.chg f hmem).1
      obtain ⟨L, hL⟩ : ∃ L : Nat, L = f.row.1.length := ⟨_, rfl⟩
      obtain ⟨P, hP⟩ : ∃ P : Nat, P = f.peak := ⟨_, rfl⟩
      obtain ⟨T, hT2⟩ : ∃ T : Nat, T = heldD D := ⟨_, rfl⟩
      obtain ⟨M, hM⟩ : ∃ M : Int, M = D.room := ⟨_, rfl⟩
      have HM := hid hM
      rw [← hL, ← hP] at hln
      rw [← hT2] at hhd
      replace HRES := hid (by have h1 := HRES.out; rw [← hL, ← hP, ← hT2, ← hM] at h1; exact h1)
      rw [← hL, ← hP] at hP1
      rw [← hP, ← hT2] at hP2
      rw [← hT2, ← hM] at hP3
      rw [← hM] at hroom
      have HLN := hid hln
      have HHD := hid hhd
      have HCC := hid hcc
      have i1 : (i : Int) < (D.files.length : Int) := by omega
      obtain ⟨c3, y0, y1, y2, -⟩ := hcc w2 (Below.refl _ _)
      replace c3 := (show w2.cell? ⟨r, 3, none⟩ = some (.slice (some ⟨b, 0, none⟩) D.files.length cl) from c3)
      replace hcl := (show D.files.length ≤ cl from hcl)
      clear hln hhd hlv hpv hbv hcc hmem hL hP hT2 hM
      go_upto_region 9 with (first
        | (go_at_call 101
           refine HLN.out.mono ?_
           rintro e w3 ⟨rfl, hb3⟩
           have H3 := hid hb3
           clear hb3)
        | (go_at_call 43
           refine (HHD.out _ H3.out).mono ?_
           rintro e w4 ⟨rfl, hb4⟩
           have H4 := hid (bel_on H3.out hb4)
           clear hb4))
      clear c3 y0 y1 y2
      have c0 : w4.cell? ⟨r, 0, none⟩ = some (.int .i64 M) := by rw [HM.out]; exact (H2.out.1.below H4.out).cells.1
      by_cases hbig : M < (T : Int) - P + max (P : Int) ((L : Int) + Y)
      · replace HRES := hid (by have h1 := HRES.out; rw [if_pos hbig] at h1; exact h1)
        by_cases hy2 : M < (Y : Int)
        · clear hbig
          go_wp2
          go_ret
          rw [HRES.out]
          exact ⟨rfl, R, ((RGoes.still H.out H1.out.1).trans ⟨H2.out.1, H2.out.2.mono (fun _ _ e => .inl e), fun _ e => .inl e⟩).trans (RGoes.still H2.out.1 H4.out)⟩
        · have hb1' : (P : Int) < (L : Int) + (Y : Int) := by omega
          have hb2' : M < (T : Int) - P + L + Y := by omega
          clear hbig
          go_wp2
          go_ret
          rw [HRES.out]
          exact ⟨rfl, R, ((RGoes.still H.out H1.out.1).trans ⟨H2.out.1, H2.out.2.mono (fun _ _ e => .inl e), fun _ e => .inl e⟩).trans (RGoes.still H2.out.1 H4.out)⟩
      · replace HRES := hid (by have h1 := HRES.out; rw [if_neg hbig] at h1; exact h1)
        have hy2 : ¬ M < (Y : Int) := by omega
        go_cut [7, 72] from 11 (fun v7 v72 wc => v7 = .int .i64 i ∧ v72 = .bool false ∧ Hid (Below w2.heap.size w2 wc))
        case first =>
          by_cases hb1' : (P : Int) < (L : Int) + (Y : Int)
          · have hb2' : ¬ M < (T : Int) - P + L + Y := by omega
            clear hbig
            go_wp2_with fail
            go_meet
            case rel => exact ⟨rfl, rfl, H4⟩
          · clear hbig
            go_wp2_with fail
            go_meet
            case rel => exact ⟨rfl, rfl, H4⟩
        case rest =>
          obtain ⟨rfl, rfl, H5⟩ := hcut
          rename World => W4
          clear H4 H3 c0
          by_cases h0 : Y = 0
          · replace HRES := hid (by have h1 := HRES.out; rw [if_pos h0] at h1; exact h1)
            have h0' : ¬ (0 : Int) < (Y : Int) := by omega
            go_wp2
            go_ret
            rw [HRES.out]
            exact ⟨rfl, R, ((RGoes.still H.out H1.out.1).trans ⟨H2.out.1, H2.out.2.mono (fun _ _ e => .inl e), fun _ e => .inl e⟩).trans (RGoes.still H2.out.1 H5.out)⟩
          · replace HRES := hid (by have h1 := HRES.out; rw [if_neg h0] at h1; exact h1)
            have h0' : (0 : Int) < (Y : Int) := by omega
            have hyn : ys ≠ [] := fun e => h0 (by rw [HY.out, e]; rfl)
            have hk24 : Kept (fun k => k = r) w W4 := (((Kept.ofBelow H1.out.1).mono (S' := fun k => k = r) (fun _ _ e => e.elim)).trans H2.out.2 (fun _ _ e => e)).trans (Kept.ofBelow H5.out) (fun _ _ e => e.elim)
            have hsn4 := HSL.out.1.kept hk24 (fun k e e2 => HSL.out.2 hyn k e (.inl e2))
            have hr4 := H2.out.1.below H5.out
            obtain ⟨hop, hmo⟩ := hr4.more (cntS_WD' HWD.out) (i := i) (f := f) H1.out.2 HLV.out.1 HLV.out.2
            obtain ⟨c3, -, -, y2, -⟩ := HCC.out W4 H5.out
            replace c3 := (show W4.cell? ⟨r, 3, none⟩ = some (.slice (some ⟨b, 0, none⟩) D.files.length cl) from c3)
            have HC4 := hid (fun (W : World) (hb : Below W4.heap.size W4 W) => And.intro (show W.cell? ⟨r, 3, none⟩ = some (.slice (some ⟨b, 0, none⟩) D.files.length cl) from (HCC.out W (bel_on H5.out hb)).1) (HCC.out W (bel_on H5.out hb)).2.2.2.1)
            have hbd : Below W4.heap.size W4 W4.drew := ⟨rfl, rfl, rfl, Nat.le_refl _, fun _ _ => rfl⟩
            have hcp := copied_r ao cap ys W4.drew (hsn4.below hbd) (by rw [← HY.out]; omega)
            rw [← HY.out] at hcp
            have HCP := hid hcp
            have HOP := hid (And.intro hop hbd)
            have HMO := hid hmo
            have HR4 := hid hr4
            clear hcp hk24 hsn4 hop hmo hr4 hbd
            go_upto_region 12 with fail
            go_region_law
              (first
                | (refine step_append_rf _ (by rfl) _ _ 139 148 _ 3 40 (by rfl) Tryz.underlying139 Tryz.info148 rfl (by omega) 0 (.slice ap f.cs.length cp2) f.cs.length ((R.ps f.no).flatMap ccs) (by rfl) (HP5.out.1.alloc _) (.slice (some ⟨w5.heap.size, 0, none⟩) 1 1) 1 [.bool false, .int .i64 0, .slice a5 Y c5] (by rfl) (rf_new w5 148 #[.bool false, .int .i64 0, .slice a5 Y c5] 3 rfl (ones3 _ _ _ rfl rfl rfl)) (by omega) (by unfold maxLen; omega) (Nat.zero_le _) ?_; intro a9 c9 w9 hown hgr hob; have hk9 : Kept (fun q => (Value.slice ap f.cs.length cp2).ownBlock = some q) w5 w9 := ((Kept.refl _ w5).alloc _).grown hgr.out (fun _ _ e => e); have hmo := HMO.out w9 (.inl ys) (.slice a5 Y c5) a9 c9 (((Kept.ofBelow HP5.out.2.2).mono (fun _ _ e => e.elim)).trans hk9 (fun _ _ e => e)) hown.out (fun q e => by rcases hob.out with e2 | e2; (left; exact e2.symm.trans e); (right; rw [e2] at e; injection e with e; rw [← e]; have := HP5.out.2.2.size; simp; omega)) (.inr ⟨ys, rfl, by rw [← HY.out]; exact ownsRow_kept HP5.out.2.1 hk9 (fun q e e2 => owns_ne HP5.out.2.1 HP5.out.1 (by decide) q e e2)⟩); obtain ⟨s1, s3, s2, s4, hR⟩ := hmo; replace s1 := (show w9.cell? ⟨r, 3, none⟩ = some (.slice (some ⟨b, 0, none⟩) D.files.length cl) from s1); have HRR := hid hR; clear hR s4 hown hgr hob hk9)
                | (go_simp; go_wp2_with (go_at_call 105; refine HCP.out.mono ?_; rintro e w5 ⟨v5, rfl, ho5, hb5⟩; obtain ⟨a5, c5, rfl⟩ := own_shape ho5; have hb45 := bel_on HOP.out.2 hb5; obtain ⟨t3, t2⟩ := HC4.out w5 hb45; have hbl5 : b < w5.heap.size := World.block_lt_of_cell? _ _ t2; have hrl5 : r < w5.heap.size := World.block_lt_of_cell? _ _ t3; have HP5 := hid (And.intro (ownsRow_kept HOP.out.1 (Kept.ofBelow hb45) (fun _ _ e => e)) (And.intro ho5 hb45)); clear ho5 hb5 hb45)))
            all_goals
              go_wp2
              go_ret
              obtain ⟨R9, hg9⟩ := HRR.out
              rw [HRES.out]
              exact ⟨rfl, R9, (((RGoes.still H.out H1.out.1).trans ⟨H2.out.1, H2.out.2.mono (fun _ _ e => .inl e), fun _ e => .inl e⟩).trans (RGoes.still H2.out.1 H5.out)).trans hg9⟩
    · have hp : appP D nm ys = (fe (fo D.fs (D.st + 1)), cntS D) := by simp [appP, strokeP, q0, hf]
      rw [hp]
      have hb0 : (fe (fo D.fs (D.st + 1)) == 0) = false := by simpa using hf
      clear h hp q0 q2 q3 hf hsl hne
      generalize fe (fo D.fs (D.st + 1)) = er at HS hb0 ⊢
      go_enter Tryz.func53, Tryz.ntmps53
      go_wp2_with (first
        | (go_at_call 103
           refine HK.out.mono ?_
           rintro e w1 ⟨⟨i, rfl, -⟩, hb1⟩
           have H1 := hid hb1
           clear hb1)
        | (go_at_call 104
           refine (HS.out _ H1.out).mono ?_
           rintro e w2 ⟨rfl, hr2, hk2⟩
           have H2 := hid (And.intro hr2 hk2)
           clear hr2 hk2))
      go_ret
      exact ⟨rfl, R, (RGoes.still H.out H1.out).trans ⟨H2.out.1, H2.out.2.mono (fun _ _ e => .inl e), fun _ e => .inl e⟩⟩
  · have hp : appP D nm ys = (pre1 D nm false 0, D) := by simp [appP, strokeP, q0]
    rw [hp]
    have hb0 : (pre1 D nm false 0 == 0) = false := by simpa using q0
    clear h hp q0 hsl hne
    generalize pre1 D nm false 0 = er at HK hb0 ⊢
    go_enter Tryz.func53, Tryz.ntmps53
    go_wp2_with (
      go_at_call 103
      refine HK.out.mono ?_
      rintro e w1 ⟨⟨i, rfl, -⟩, hb1⟩
      have H1 := hid hb1
      clear hb1)
    go_ret
    exact ⟨rfl, R, RGoes.still H.out H1.out⟩

end

end Go.Proofs.YtlmompdfombgeaaGreat

namespace Go.Proofs.YtlmompdfombgeaaGreat
open Go.RowKit Go.MapKept

section
variable {w w' : World} {r : Nat} {R : Rt} {D : Dq} {n : Nat}

/-- The blocks of names and plan. -/
def Hd3 (R : Rt) (k : Nat) : Prop := R.nv.ownBlock = some k ∨ R.sv.ownBlock = some k ∨ R.rv.ownBlock = some k

theorem Hd3.ro (h : RdT w r R D) {k : Nat} (e : Hd3 R k) : R.ro k := by
  rcases e with e | e | e
  · exact h.fn k e
  · exact h.f1 k e
  · exact h.f2 k e

/-- Other files, none with a pending change, in rows from B on. -/
theorem RdT.setL (h : RdT w r R D) (ht : R.tv = .slice none 0 0) (hD : D.turns = []) (B : Nat) (hB : ∀ k, Hd3 R k → k < B) (hr : r < B) (fs : List Fi) (hcs : ∀ f ∈ fs, f.cs = []) {v' : Value} {bv' : Int → Value}
    (hd : w'.heap[r]? = some (.cells #[.int .i64 D.room, .int .i64 D.limit, .int .i64 D.made, v', R.nv, R.tv, R.sv, R.rv, .int .i64 D.st, .int .i64 D.rd, .bool D.off] 58 (0, 0)))
    (hown : w'.ownsRow B 141 3 v' fs.length (fs.flatMap fun f => [.int .i64 f.no, bv' f.no, .slice none 0 0])) (hs : ∀ f ∈ fs, w'.ownsRow B 5 1 (bv' f.no) f.safe.length (B8 f.safe)) (hk : Kept (fun q => q = r) w w') :
    ∃ R', RdT w' r R' { D with files := fs } ∧ R'.sn = R.sn ∧ SmR R R' ∧ ∀ k, Rft r R' k → k = r ∨ Hd3 R k ∨ B ≤ k := by
  have hne : ∀ k, Hd3 R k → ¬ k = r := fun k e e2 => h.r1 (e2 ▸ Hd3.ro h e)
  refine ⟨⟨v', R.nv, R.tv, R.sv, R.rv, bv', fun _ => .slice none 0 0, fun _ => [], R.sn, fun k => Hd3 R k ∨ ∃ f ∈ fs, (bv' f.no).ownBlock = some k, fun k => v'.ownBlock = some k⟩, ⟨hd, owns_mono hown (Nat.zero_le _), Rf.kept h.nms hk fun k e => hne k (.inl e), h.ns, ?_, fun f hf => sn_of_owns (hs f hf), ?_, ?_, ?_, ?_, Rf.kept h.fs hk fun k e => hne k (.inr (.inl e)), Rf.kept h.fr hk fun k e => hne k (.inr (.inr e)), fun k e => e, fun k e => .inl (.inl e), ?_, fun k e => .inl (.inr (.inl e)), fun k e => .inl (.inr (.inr e)), fun f hf k e => .inr ⟨f, hf, e⟩, ?_, ?_, ?_, ?_, ?_, ?_⟩, rfl, ⟨rfl, rfl, rfl, rfl⟩, ?_⟩
  · show w'.ownsRow 0 146 4 R.tv D.turns.length (D.turns.flatMap tncs)
    rw [ht, hD]; exact owns_nil _ _ _ _
  · intro f hf
    rw [hcs f hf]
    exact owns_nil _ _ _ _
  · intro f hf
    rw [hcs f hf]; rfl
  · intro f hf p hp
    cases hp
  · intro f _ g _ _ k e
    simp [Value.ownBlock] at e
  · intro k e
    simp only [ht, Value.ownBlock] at e
    cases e
  · intro f _ k e
    simp [Value.ownBlock] at e
  · intro f _ p hp
    cases hp
  · rintro k (e | ⟨f, hf, e⟩) e2
    · have := hB k e
      have := (hown.lt k e2).1
      omega
    · exact owns_ne (hs f hf) hown (by decide) k e e2
  · rintro (e | ⟨f, hf, e⟩)
    · exact hne r e rfl
    · have := ((hs f hf).lt r e).1
      omega
  · intro e
    have := (hown.lt r e).1
    omega
  · rintro k ((e | ⟨f, hf, e⟩) | e)
    · exact Nat.lt_of_lt_of_le (h.lt k (.inl (Hd3.ro h e))) hk.size
    · exact ((hs f hf).lt k e).2
    · exact (hown.lt k e).2
  · rintro k (e | (e | ⟨f, hf, e⟩) | e)
    · exact .inl e
    · exact .inr (.inl e)
    · exact .inr (.inr ((hs f hf).lt k e).1)
    · exact .inr (.inr (hown.lt k e).1)

/-- A copy of the disk's own block. -/
theorem RdT.move (h : RdT w r R D) (hb : Below w.heap.size w w') {x : Nat} (hx : w.heap.size ≤ x) (hd : w'.heap[x]? = some (.cells #[.int .i64 D.room, .int .i64 D.limit, .int .i64 D.made, R.lv, R.nv, R.tv, R.sv, R.rv, .int .i64 D.st, .int .i64 D.rd, .bool D.off] 58 (0, 0))) : RdT w' x R D :=
  { h.below hb with
    disk := hd
    r1 := fun e => by have := h.lt x (.inl e); omega
    r2 := fun e => by have := h.lt x (.inr e); omega }

end

/-- The program's disk and the document's, apart. -/
structure Pr (w : World) (d r : Nat) (t : Wt) (R : Rt) (D E : Dq) : Prop where
  a : DkT w d t D
  b : RdT w r R E
  x : ∀ k, Dft d t D k → ¬ Rft r R k

/-- The blocks of both. -/
def Pft (d r : Nat) (t : Wt) (R : Rt) (D : Dq) (k : Nat) : Prop := Dft d t D k ∨ Rft r R k

theorem Pr.lt {w : World} {d r : Nat} {t : Wt} {R : Rt} {D E : Dq} (h : Pr w d r t R D E) (k : Nat) (e : Pft d r t R D k) : k < w.heap.size := by
  rcases e with e | e
  · exact h.a.lt k e
  · exact h.b.lt' k e

theorem Pr.kept {w w' : World} {d r : Nat} {t : Wt} {R : Rt} {D E : Dq} {S : Nat → Prop} (h : Pr w d r t R D E) (hk : Kept S w w') (hS : ∀ k, Pft d r t R D k → ¬ S k) : Pr w' d r t R D E := ⟨h.a.kept hk fun k e => hS k (.inl e), h.b.kept hk fun k e => hS k (.inr e), h.x⟩

theorem Pr.below {w w' : World} {d r : Nat} {t : Wt} {R : Rt} {D E : Dq} (h : Pr w d r t R D E) (hb : Below w.heap.size w w') : Pr w' d r t R D E := h.kept (Kept.ofBelow hb) fun _ _ e => e

/-- From one pair to another. -/
structure PG (d r : Nat) (w : World) (t : Wt) (R : Rt) (D : Dq) (w' : World) (t' : Wt) (R' : Rt) (D' E' : Dq) : Prop where
  pr : Pr w' d r t' R' D' E'
  kp : Kept (Pft d r t R D) w w'
  ft : ∀ k, Pft d r t' R' D' k → Pft d r t R D k ∨ w.heap.size ≤ k

theorem PG.still {d r : Nat} {w w' : World} {t : Wt} {R : Rt} {D E : Dq} (h : Pr w d r t R D E) (hb : Below w.heap.size w w') : PG d r w t R D w' t R D E := ⟨h.below hb, (Kept.ofBelow hb).mono fun _ _ e => e.elim, fun _ e => .inl e⟩

theorem PG.trans {d r : Nat} {w w1 w2 : World} {t t1 t2 : Wt} {R R1 R2 : Rt} {D D1 D2 E1 E2 : Dq} (h : PG d r w t R D w1 t1 R1 D1 E1) (h2 : PG d r w1 t1 R1 D1 w2 t2 R2 D2 E2) : PG d r w t R D w2 t2 R2 D2 E2 :=
  ⟨h2.pr, h.kp.trans h2.kp (fun i hi e => by rcases h.ft i e with e | e; exact e; omega), fun k e => by
    rcases h2.ft k e with e | e
    · exact h.ft k e
    · exact .inr (Nat.le_trans h.kp.size e)⟩

/-- A call of the program's. -/
theorem Pr.prog {d r : Nat} {w w1 : World} {t t1 : Wt} {R : Rt} {D D1 E : Dq} (h : Pr w d r t R D E) (g : Goes d w t D w1 t1 D1) : PG d r w t R D w1 t1 R D1 E :=
  ⟨⟨g.dk, h.b.kept g.kp fun k e e2 => h.x k e2 e, fun k e e2 => by
    rcases g.ft k e with e3 | e3
    · exact h.x k e3 e2
    · have := h.b.lt' k e2; omega⟩, g.kp.mono fun _ _ e => .inl e, fun k e => by
    rcases e with e | e
    · rcases g.ft k e with e | e
      · exact .inl (.inl e)
      · exact .inr e
    · exact .inl (.inr e)⟩

/-- A call of the document's. -/
theorem Pr.doc {d r : Nat} {w w1 : World} {t : Wt} {R R1 : Rt} {D E E1 : Dq} (h : Pr w d r t R D E) (g : RGoes r w R E w1 R1 E1) : PG d r w t R D w1 t R1 D E1 :=
  ⟨⟨h.a.kept g.kp fun k e e2 => h.x k e e2, g.rd, fun k e e2 => by
    rcases g.ft k e2 with e3 | e3
    · exact h.x k e e3
    · have := h.a.lt k e; omega⟩, g.kp.mono fun _ _ e => .inr e, fun k e => by
    rcases e with e | e
    · exact .inl (.inl e)
    · rcases g.ft k e with e | e
      · exact .inl (.inr e)
      · exact .inr e⟩

end Go.Proofs.YtlmompdfombgeaaGreat
