import Derived.Test.YtlmompdfombgeaaGreatK38
namespace Go.Proofs.YtlmompdfombgeaaGreat
open Go.RowKit Go.MapKept

theorem FbO.kept {w w' : World} {B r : Nat} {v : Value} {l : List (ByteArray × List Int)} {vs : List Value} (h : FbO w B v l vs) (hk : Kept (fun q => q = r) w w') (hr : r < B) : FbO w' B v l vs :=
  ⟨h.n, ownsRow_kept h.r hk (fun k e e2 => by have := (h.r.lt k e).1; omega), fun i x u hx hu => ownsRow_kept (h.d i x u hx hu) hk (fun k e e2 => by have := ((h.d i x u hx hu).lt k e).1; omega)⟩

theorem cells2a {w : World} {p : Nat} {a b : Value} {t : TypeId} (h : w.heap[p]? = some (.cells #[a, b] t (0, 0))) : w.cell? ⟨p, 0, none⟩ = some a := by rw [cell_of_row _ _ _ _ _ _ h]; rfl

theorem rf_kept_r {w w' : World} {r m : Nat} {v : Value} {n : Nat} {cs : List Value} (h : Rf w m v n cs) (hk : Kept (fun q => q = r) w w') (hn : 0 < n → v.ownBlock ≠ some r) : Rf w' m v n cs := by
  obtain ⟨h0, h1, h2⟩ := h
  refine ⟨h0, h1, ?_⟩
  rcases h2 with h2 | ⟨a, cap, rfl, h3, h5, h4⟩
  · exact .inl h2
  · refine .inr ⟨a, cap, rfl, h3, h5, fun j u hu => hk.cell (h4 j u hu) (fun e => ?_)⟩
    have hn0 : 0 < n := by
      rcases Nat.eq_zero_or_pos n with e0 | e0
      · subst e0
        simp at h0
        rw [h0] at hu
        simp at hu
      · exact e0
    exact hn hn0 (by cases a; simp only [Addr.add] at e; split at e <;> simpa [Value.ownBlock] using e)

theorem Pks.kept_r {w w' : World} {r : Nat} {fv : Value} {pk : List Pk} (h : Pks w fv pk) (hk : Kept (fun q => q = r) w w') (hs : ¬ pkBlk fv pk r) : Pks w' fv pk :=
  ⟨rf_kept_r h.1 hk (fun h0 e => hs (.inl ⟨h0, e⟩)), fun p hp => ⟨(h.2 p hp).1, rf_kept_r (h.2 p hp).2.1 hk (fun h0 e => hs (.inr ⟨p, hp, h0, e⟩)), (h.2 p hp).2.2⟩⟩

section
variable {w w' : World} {r : Nat} {R : Rt} {D : Dq} {n : Nat}

theorem whL_wh (hW : WD n D) (pks : List (Int × List Int)) {sn : List (ByteArray × Int)} (hok : NOK D.files sn) {m : Int} (hm : m ∈ sn.map Prod.snd) : ∃ f, ff m (liveF sn (whL pks D.files.length D.files)) = some f ∧ f.safe = wholeN pks D m ∧ f.cs = [] := by
  obtain ⟨x, hx, rfl⟩ := List.mem_map.1 hm
  obtain ⟨g, hg, hgn⟩ := List.mem_map.1 (hok.l x hx)
  obtain ⟨i, hi⟩ := List.mem_iff_getElem?.1 hg
  have h1 : whF pks i g ∈ whL pks D.files.length D.files := by
    unfold whL
    rw [List.take_length]
    refine List.mem_iff_getElem?.2 ⟨i, ?_⟩
    rw [List.getElem?_mapIdx, hi]
    rfl
  have hnd : ((liveF sn (whL pks D.files.length D.files)).map Fi.no).Nodup := by
    refine List.Nodup.sublist ((List.filter_sublist).map _) ?_
    rw [whL_no, List.take_length]
    exact hW.nd
  have h2 : whF pks i g ∈ liveF sn (whL pks D.files.length D.files) := mem_liveF.2 ⟨h1, by show g.no ∈ _; rw [hgn]; exact hm⟩
  refine ⟨whF pks i g, ?_, ?_, rfl⟩
  · have := ff_self hnd h2
    rw [show (whF pks i g).no = x.2 from hgn] at this
    exact this
  · show (wholeF (pkAt pks i).1 g).1 = _
    rw [← hgn, wholeN_at pks D hW.nd i g hi]

set_option maxRecDepth 100000 in
set_option maxHeartbeats 12800000 in
theorem crash_r (h : RdT w r R D) (hW : WD n D) (hn : n ≤ 90000) (hT : TOK D) (pn : Int) (hpn : I64 pn) (fv : Value) (pk : List Pk) (hpk : Pks w fv pk) (hl : pk.length ≤ 300) (hll : ∀ p ∈ pk, p.lost.length ≤ 300) (hsep : ¬ pkBlk fv pk r) :
    Calls Tryz.prog 65 #[.pointer (some ⟨r, 0, none⟩), .agg #[.int .i64 pn, fv]] w fun e w' => ∃ v, e = .returned v ∧ FbL w' v (crashP pn (pksOf pk) D).1 ∧ (∃ R', RGoes r w R D w' R' (crashP pn (pksOf pk) D).2) ∧ Kept (fun k => k = r) w w' := by
  obtain ⟨afv, cfv, rfl, -, -⟩ := hpk.1.shape
  have hrl := hp_lt h.disk
  have hfl : D.files.length ≤ 1000 := by have h1 := hW.cnt; have h2 := hW.lim; omega
  have htl := hW.tur
  obtain ⟨m, hm⟩ : ∃ m, m = firstN pn D.turns.length := ⟨_, rfl⟩
  have hml : m ≤ D.turns.length := by rw [hm]; exact firstN_le _ _
  have hnl : (rnm R.sn D.turns m).length ≤ 512 := h.nlen hW _
  have HNN := hid (h.ns.at (D := D) m)
  have hres : crashP pn (pksOf pk) D = ((rnm R.sn D.turns m).map (fun x => (x.1, wholeN (pksOf pk) D x.2)), { D with safeN := D.namesAt m, turns := [], files := liveF (rnm R.sn D.turns m) (loL (pksOf pk) D.files.length D.files), off := false, st := 0, fs := [], rd := 0, fr := [] }) := by
    unfold crashP crashNm
    rw [← hm, (h.ns.at (D := D) m).told (hW.saf m).k, loL_all, liveF_perm' (h.ns.at (D := D) m).p]
    rfl
  rw [hres]
  obtain ⟨c0, c1, c2, c3, c4, c5, c6, c7, c8, c9, c10⟩ := h.cells
  obtain ⟨at', ct, htv⟩ := own_shape h.tur
  obtain ⟨an, cn, hnv, -, -⟩ := h.nms.shape
  rw [htv] at c5
  rw [hnv] at c4
  have hfz := h.free
  have hba := bel_al w (.cells #[.int .i64 pn, .slice afv pk.length cfv] 41)
  have hra := h.below (hba.drew)
  have HN := hid (names_any hra m hml (by omega) (fun i x _ hx => hra.tdo hW hT i x hx) (fun i _ => by have := hra.nlen hW i; omega))
  have HRO := hid (show ∀ W, Calls Tryz.prog 114 #[.int .i64 pn, .int .i64 ((D.turns.length : Int) + 1)] W fun x w' => x = .returned (.int .i64 (m : Nat)) ∧ w' = W from fun W => by rw [hm]; exact rround_first pn D.turns.length W hpn (by omega))
  have H := hid (And.intro h (And.intro hW (And.intro hpk (And.intro hll hsep))))
  have HBA := hid hba
  have HTV := hid htv
  have HS0 := hid (And.intro (show (w.alloc (.cells #[.int .i64 pn, .slice afv pk.length cfv] 41)).drew.cell? ⟨w.heap.size, 0, none⟩ = some (.int .i64 pn) from cells2a (hp_new w (.cells #[.int .i64 pn, .slice afv pk.length cfv] 41))) ((hba.drew.cell (World.block_lt_of_cell? _ _ c5)).trans c5))
  clear hres h hW hpk hll hsep htv hnv hba hra c0 c1 c2 c3 c6 c7 c8 c9 c10 hm
  have hwt : IntKind.i64.wrap ((D.turns.length : Int) + 1) = (D.turns.length : Int) + 1 := by rw [IntKind.wrap_i64]; omega
  go_enter Tryz.func65, Tryz.ntmps65
  go_wp2_with fail
  go_cut [3] from 5 (fun v3 wc => v3 = .pointer (some ⟨w.heap.size, 0, none⟩) ∧ Hid (∃ v' w1, Below w.heap.size w w1 ∧ Nl w1 v' (rnm R.sn D.turns m) ∧ (∀ q, v'.ownBlock = some q → R.nv.ownBlock = some q ∨ (w.heap.size ≤ q ∧ q < w1.heap.size)) ∧ w1.heap[w.heap.size]? = some (.cells #[.int .i64 pn, .slice afv pk.length cfv] 41 (0, 0)) ∧ wc = w1.setCell ⟨r, 4, none⟩ v'))
  case first =>
    go_region_held3 (fun wx => wx.cell? ⟨w.heap.size, 0, none⟩ = some (.int .i64 pn) ∧ wx.cell? ⟨r, 5, none⟩ = some (.slice at' D.turns.length ct)) (first | exact HS2.out _ | exact HS1.out | exact HS0.out) (first
      | (go_at_call 114; refine (HRO.out _).mono ?_; rintro e w' ⟨rfl, e1⟩; rw [e1]; clear e1 w')
      | (go_at_call 113
         refine HN.out.mono ?_
         rintro e w1 ⟨v1, rfl, hl1, hq1, hb1⟩
         obtain ⟨a1, cp1, rfl, -, -⟩ := hl1.shape
         have hb01 := HBA.out.drew.trans (hb1.mono (HBA.out.drew.size))
         have hr1 := H.out.1.below hb01
         obtain ⟨-, -, -, -, d4, d5, -⟩ := hr1.cells
         rw [HTV.out] at d5
         have hfz1 := hr1.free
         obtain ⟨an1, cn1, hnv1, -, -⟩ := hr1.nms.shape
         rw [hnv1] at d4
         have hbx := hp_below (hp_new w (.cells #[.int .i64 pn, .slice afv pk.length cfv] 41)) (show Below (w.alloc (.cells #[.int .i64 pn, .slice afv pk.length cfv] 41)).heap.size (w.alloc (.cells #[.int .i64 pn, .slice afv pk.length cfv] 41)) w1 from ⟨hb1.os, hb1.tape, hb1.output, hb1.size, hb1.block⟩) (by simp)
         have hs1 : w1.cell? ⟨w.heap.size, 0, none⟩ = some (.int .i64 pn) := by rw [cell_of_row _ _ _ _ _ _ hbx]; rfl
         have HS1 := hid (And.intro hs1 d5)
         have HS2 := hid (fun u => And.intro (((Kept.refl (fun q => q = r) w1).setCell (p := ⟨r, 4, none⟩) (fun _ => rfl) u).cell hs1 (fun e => by dsimp only at e; omega)) (show (w1.setCell ⟨r, 4, none⟩ u).cell? ⟨r, 5, none⟩ = some (.slice at' D.turns.length ct) by rw [cell_of_row _ _ _ _ _ _ (set_block (i := 4) hr1.disk u)]; rw [HTV.out]; rfl))
         have H1 := hid (And.intro hb01 (And.intro hl1 (And.intro hq1 hbx)))
         clear hl1 hq1 hb1 hb01 hr1 hnv1 hbx hs1))
    all_goals
      go_wp2_with fail
      go_meet
      case rel =>
        refine ⟨rfl, hid ⟨_, w1, H1.out.1, H1.out.2.1, fun q e => ?_, H1.out.2.2.2, rfl⟩⟩
        rcases H1.out.2.2.1 q e with e2 | ⟨e2, e3⟩
        · exact .inl e2
        · exact .inr ⟨by simp at e2; omega, e3⟩
  case rest =>
    obtain ⟨rfl, HC⟩ := hcut
    rename World => Wc
    obtain ⟨v', w1, hb1, hl1, hq1, hbx, hwc⟩ := HC.out
    obtain ⟨a1, cp1, rfl, -, -⟩ := hl1.shape
    have hr1 := H.out.1.below hb1
    have hdc := set_block (i := 4) hr1.disk (.slice a1 (rnm R.sn D.turns m).length cp1)
    rw [← hwc] at hdc
    obtain ⟨d5, hfzc⟩ : Wc.cell? ⟨r, 5, none⟩ = some (.slice at' D.turns.length ct) ∧ ∀ o, Wc.frozen? ⟨r, o, none⟩ = false := ⟨by rw [cell_of_row _ _ _ _ _ _ hdc, HTV.out]; rfl, fun o => free_of_block hdc⟩
    have hkc : Kept (fun q => q = r) w1 (Wc.setCell ⟨r, 5, none⟩ (.slice none 0 0)) := by
      rw [hwc]
      exact ((Kept.refl (fun q => q = r) w1).setCell (p := ⟨r, 4, none⟩) (fun _ => rfl) _).setCell (p := ⟨r, 5, none⟩) (fun _ => rfl) _
    have hg4 := H.out.1.setN hb1 hl1 HNN.out hq1 hkc (set_block (i := 5) hdc (.slice none 0 0))
    have hk4 : Kept (fun q => q = r) w (Wc.setCell ⟨r, 5, none⟩ (.slice none 0 0)) := ((Kept.ofBelow hb1).mono (S' := fun q => q = r) (fun _ _ e => e.elim)).trans hkc (fun _ _ e => e)
    have hbx4 := hp_kept hbx hkc (show ¬ w.heap.size = r by omega)
    have HCT := hid (show ∃ R1, RGoes r w R D (Wc.setCell ⟨r, 5, none⟩ (.slice none 0 0)) R1 { D with safeN := D.namesAt m, turns := [] } ∧ R1.sn = rnm R.sn D.turns m ∧ R1.tv = .slice none 0 0 ∧ Kept (fun q => q = r) w (Wc.setCell ⟨r, 5, none⟩ (.slice none 0 0)) ∧ (Wc.setCell ⟨r, 5, none⟩ (.slice none 0 0)).heap[w.heap.size]? = some (.cells #[.int .i64 pn, .slice afv pk.length cfv] 41 (0, 0)) from by
      obtain ⟨R1, g1, s1, s2, s3, s4, s5⟩ := hg4
      exact ⟨R1, g1, s1, s3, hk4, hbx4⟩)
    clear HC hb1 hl1 hq1 hbx hr1 hdc hkc hg4 hk4 hbx4 hwc c4 c5 hfz
    go_upto_region 7 with fail
    refine cutG (fun W => ∃ R1, RGoes r w R D W R1 { D with safeN := D.namesAt m, turns := [] } ∧ R1.sn = rnm R.sn D.turns m ∧ R1.tv = .slice none 0 0 ∧ Kept (fun q => q = r) w W ∧ W.heap[w.heap.size]? = some (.cells #[.int .i64 pn, .slice afv pk.length cfv] 41 (0, 0))) HCT.out ?_
    clear HCT d5 hfzc
    rintro W4 ⟨R1, g4, hsn4, htv4, hk4, hbx4⟩
    have hpk4 := H.out.2.2.1.kept_r hk4 H.out.2.2.2.2
    obtain ⟨al1, cl1, hlv1⟩ := own_shape g4.rd.lis
    have hB : ∀ k, Hd3 R1 k → k < W4.heap.size := fun k e => g4.rd.lt k (.inl (Hd3.ro g4.rd e))
    have hrB : r < W4.heap.size := hp_lt g4.rd.disk
    have H4 := hid (And.intro g4 (And.intro hsn4 (And.intro htv4 (And.intro hk4 (And.intro hbx4 (And.intro hpk4 (And.intro hB hrB)))))))
    have HL1 := hid hlv1
    clear g4 hsn4 htv4 hk4 hbx4 hpk4 hB hlv1 HN HRO HS0 HBA HTV hwt
    go_wp2_with fail
    go_loopw [5, 6, 7] (fun v5 v6 ix wr => ∃ (k : Nat) (aw : Option Addr) (cw : Nat) (al : Option Addr) (cl : Nat), k ≤ D.files.length ∧ v5 = .slice aw k cw ∧ v6 = .slice al k cl ∧ ix = .int .i64 k ∧ Hid (∃ bw bl, CrL W4.heap.size wr (.slice aw k cw) (.slice al k cl) bw bl (whL (pksOf pk) k D.files) (loL (pksOf pk) k D.files) ∧ Below W4.heap.size W4 wr)) (fun _ _ ix _ => D.files.length - (intOf ix).toNat)
    case atStart => exact ⟨0, none, 0, none, 0, Nat.zero_le _, rfl, rfl, rfl, hid ⟨fun _ => .slice none 0 0, fun _ => .slice none 0 0, CrL.nil _ _ _ _, Below.refl _ _⟩⟩
    case round =>
      obtain ⟨k, aw, cw, al, cl, hk, rfl, rfl, rfl, HR⟩ := hrel
      have hrwr := H4.out.1.rd.below (show Below W4.heap.size W4 wr by obtain ⟨_, _, _, h1⟩ := HR.out; exact h1)
      obtain ⟨-, -, -, c3, -⟩ := hrwr.cells
      rw [HL1.out] at c3
      replace c3 := (show wr.cell? ⟨r, 3, none⟩ = some (.slice al1 D.files.length cl1) from c3)
      by_cases hlt : k < D.files.length
      · have hkf : D.files[k]? = some D.files[k] := List.getElem?_eq_getElem hlt
        obtain ⟨f, hfe⟩ : ∃ f, f = D.files[k] := ⟨_, rfl⟩
        rw [← hfe] at hkf
        have hmem : f ∈ D.files := List.mem_of_getElem? hkf
        obtain ⟨b, clf, hlvf, hclf, hbr, hbl, hcc⟩ := H4.out.1.rd.fcell (i := k) (f := f) hfl hkf
        rw [HL1.out] at hlvf
        injection hlvf with e1 e2 e3
        subst e1 e3
        clear e2
        obtain ⟨ap, cpv, hpv⟩ := own_shape (H4.out.1.rd.pen f hmem)
        obtain ⟨abv, cbv, hbv, -, -⟩ := (H4.out.1.rd.saf f hmem).1
        rw [hpv, hbv] at hcc
        have HCC := hid (show ∀ W, Below W4.heap.size W4 W → W.cell? ⟨r, 3, none⟩ = some (.slice (some ⟨b, 0, none⟩) D.files.length cl1) ∧ W.cell? ⟨b, k * 3, none⟩ = some (.int .i64 f.no) ∧ W.cell? ⟨b, k * 3 + 1, none⟩ = some (.slice abv f.safe.length cbv) ∧ W.cell? ⟨b, k * 3 + 2, none⟩ = some (.slice ap f.cs.length cpv) ∧ ∀ o, W.frozen? ⟨b, o, none⟩ = false from hcc)
        have hcsn := (H.out.2.1.chg f hmem).1
        have hpkf := H.out.2.1.peak hmem
        have hby := fun (dn : Int) (W : World) (hb : Below W4.heap.size W4 W) => H4.out.1.rd.byt_f ⟨(H.out.2.1.fok (by omega)).n, (H.out.2.1.fok (by omega)).d, (H.out.2.1.fok (by omega)).f⟩ (f := f) hmem (firstN dn f.cs.length) (firstN_le _ _) W hb
        rw [hpv, hbv] at hby
        have HBY := hid (show ∀ (dn : Int) (W : World), Below W4.heap.size W4 W → Calls Tryz.prog 106 #[.agg #[.int .i64 f.no, .slice abv f.safe.length cbv, .slice ap f.cs.length cpv], .int .i64 (firstN dn f.cs.length : Nat)] W fun e w' => ∃ v1 v2, e = .returned (.tuple #[v1, v2]) ∧ By W.heap.size w' v1 v2 ((wholeF dn f).1, (wholeF dn f).2) ∧ Below W.heap.size W w' from hby)
        have HKF := hid (And.intro hkf hmem)
        have HBK := hid (show Below W4.heap.size W4 wr by obtain ⟨_, _, _, h1⟩ := HR.out; exact h1)
        have hbx := hp_below H4.out.2.2.2.2.1 HBK.out (hp_lt H4.out.2.2.2.2.1)
        obtain ⟨p0, p1⟩ := cells2 hbx
        have hpl : w.heap.size < wr.heap.size := World.block_lt_of_cell? _ _ p1
        have i1 : (k : Int) < (D.files.length : Int) := by omega
        have hwf : IntKind.i64.wrap ((f.cs.length : Int) + 1) = (f.cs.length : Int) + 1 := by rw [IntKind.wrap_i64]; omega
        clear hcc hby hpv hbv hfe hmem hkf hbx hrwr
        by_cases hkp : k < pk.length
        · have i2 : (k : Int) < (pk.length : Int) := by omega
          have hpw := H4.out.2.2.2.2.2.1.below HBK.out
          obtain ⟨bp, ofp, capp, e, -, -, hcell⟩ := Rf.elem (f := pcs) (fun _ => rfl) (by omega) hpw.1 k hkp
          injection e with e1 e2 e3
          subst e1 e3
          clear e2
          have hpa := pkAt_some pk k hkp
          have hpm := List.getElem_mem hkp
          obtain ⟨pp, hpp⟩ : ∃ pp, pp = pk[k] := ⟨_, rfl⟩
          rw [← hpp] at hcell hpa hpm
          have hok := hpw.2 pp hpm
          have hok4 := H4.out.2.2.2.2.2.1.2 pp hpm
          have hidn := hok.1
          obtain ⟨alv, clv, hplv, -, -⟩ := hok.2.1.shape
          have hll2 := H.out.2.2.2.1 pp hpm
          have g0 := (show wr.cell? ⟨bp, ofp + k * 2, none⟩ = some (.int .i64 pp.done) from hcell 0 _ rfl)
          have g1 := (show wr.cell? ⟨bp, ofp + k * 2 + 1, none⟩ = some pp.lv from hcell 1 _ rfl)
          rw [hplv] at g1
          have hbpl : bp < wr.heap.size := World.block_lt_of_cell? _ _ g0
          have HLN := hid (show (∀ W, Below W4.heap.size W4 W → Ln W (.slice alv pp.lost.length clv) pp.lost) ∧ (∀ x ∈ pp.lost, I64 x) ∧ pkAt (pksOf pk) k = (pp.done, pp.lost) from ⟨fun W hb => by have h1 := hok4.2.1.below hb; rw [hplv] at h1; exact h1, hok.2.2.1, hpa⟩)
          clear hcell hpa hpm hpp hok hok4 hplv hpw
          go_upto_region 13 with fail
          clear g0 g1 p0 p1 c3
          refine cutG (fun W => Below wr.heap.size wr W ∧ W.heap[wr.heap.size]? = some (.cells #[.int .i64 pp.done, .slice alv pp.lost.length clv] 91 (0, 0))) ⟨bel_al _ _, hp_new wr _⟩ ?_
          rintro W5 ⟨hb5, hx8⟩
          obtain ⟨q8, hq8⟩ : ∃ q8, q8 = wr.heap.size := ⟨_, rfl⟩
          rw [← hq8] at hx8 ⊢
          have hb45 := bel_on HBK.out hb5
          obtain ⟨c3, y0, y1, y2, -⟩ := HCC.out W5 hb45
          have HQ8 := hid (And.intro hq8 (And.intro hx8 (And.intro hb45 hb5)))
          clear hq8 hx8 hb5
          go_upto_region 14 with fail
          refine cutG (fun W => Below W5.heap.size W5 W ∧ W.heap[W5.heap.size]? = some (.cells #[.int .i64 f.no, .slice abv f.safe.length cbv, .slice ap f.cs.length cpv] 141 (0, 0))) ⟨bel_al _ _, hp_new W5 _⟩ ?_
          rintro W6 ⟨hb6, hx9⟩
          clear c3 y0 y1 y2
          obtain ⟨q9, hq9⟩ : ∃ q9, q9 = W5.heap.size := ⟨_, rfl⟩
          rw [← hq9] at hx9 ⊢
          have hx86 := hp_below HQ8.out.2.1 hb6 (hp_lt HQ8.out.2.1)
          have hb46 := bel_on hb45 hb6
          obtain ⟨z0, z1, z2⟩ := cells3 hx9
          obtain ⟨u0, u1⟩ := cells2 hx86
          have HQ9 := hid (And.intro hx9 (And.intro hx86 (And.intro hb46 (And.intro (bel_on HQ8.out.2.2.2 hb6) (And.intro (hp_lt hx86) (And.intro (hp_lt hx9) (show wr.heap.size ≤ q8 ∧ wr.heap.size ≤ q9 by rw [hq9]; exact ⟨Nat.le_of_eq HQ8.out.1.symm, HQ8.out.2.2.2.size⟩)))))))
          have HC6 := hid (fun (W : World) (hb : Below W6.heap.size W6 W) => And.intro ((hb.cell (World.block_lt_of_cell? _ _ z0)).trans z0) (And.intro ((hb.cell (World.block_lt_of_cell? _ _ z1)).trans z1) (And.intro ((hb.cell (World.block_lt_of_cell? _ _ z2)).trans z2) ((hb.cell (World.block_lt_of_cell? _ _ u0)).trans u0))))
          have hbd6 : Below W6.heap.size W6 W6.drew := ⟨rfl, rfl, rfl, Nat.le_refl _, fun _ _ => rfl⟩
          have HBD6 := hid hbd6
          have hby6 := HBY.out (pp.done) W6.drew (bel_on hb46 hbd6)
          obtain ⟨xs, hxs⟩ : ∃ xs, xs = (wholeF (pp.done) f).1 := ⟨_, rfl⟩
          obtain ⟨fs0, hfs⟩ : ∃ fs0, fs0 = (wholeF (pp.done) f).2 := ⟨_, rfl⟩
          obtain ⟨L, hL⟩ : ∃ L : Nat, L = xs.length := ⟨_, rfl⟩
          have hfl0 : fs0.length = L := by rw [hL, hxs, hfs]; exact rowC_l _ _
          have HBY6 := hid (show Calls Tryz.prog 106 #[.agg #[.int .i64 f.no, .slice abv f.safe.length cbv, .slice ap f.cs.length cpv], .int .i64 (firstN (pp.done) f.cs.length : Nat)] W6.drew fun e w' => ∃ v1 v2, e = .returned (.tuple #[v1, v2]) ∧ (w'.ownsRow W6.heap.size 5 1 v1 L (B8 xs) ∧ w'.ownsRow W6.heap.size 4 1 v2 L (BB fs0)) ∧ Below W6.heap.size W6 w' from by
            rw [← hxs, ← hfs] at hby6
            refine hby6.mono ?_
            rintro e w' ⟨v1, v2, rfl, h1, h2⟩
            exact ⟨v1, v2, rfl, ⟨by rw [hL]; exact h1.a, by rw [hL]; exact h1.b⟩, bel_on hbd6 h2⟩)
          have hxl : L ≤ 4194304 := by rw [hL, hxs]; exact Nat.le_trans (take_le_peak _ _ _) hpkf
          have HXS := hid (And.intro hxs (And.intro hfs (And.intro hL hfl0)))
          have HRF := hid (fun (W : World) => rround_first (pp.done) f.cs.length W hidn (by omega))
          clear hbd6 hb6 hx9 hx86 hb45 hb46 hq9 hxs hfs hby6 hL hfl0
          go_region_held3 (fun wx => wx.cell? ⟨q9, 0, none⟩ = some (.int .i64 f.no) ∧ wx.cell? ⟨q9, 1, none⟩ = some (.slice abv f.safe.length cbv) ∧ wx.cell? ⟨q9, 2, none⟩ = some (.slice ap f.cs.length cpv) ∧ wx.cell? ⟨q8, 0, none⟩ = some (.int .i64 pp.done)) (first | exact HC6.out _ HB7.out | exact HC6.out _ HBD6.out) (first
            | (go_at_call 114; refine (HRF.out _).mono ?_; rintro e w' ⟨rfl, e1⟩; rw [e1]; clear e1 w')
            | (go_at_call 106
               refine HBY6.out.mono ?_
               rintro e w7 ⟨v1, v2, rfl, hy7, hb7⟩
               have HB7 := hid hb7
               obtain ⟨a10, c10, rfl⟩ := own_shape hy7.1
               obtain ⟨a11, c11, rfl⟩ := own_shape hy7.2
               have H7 := hid hy7
               clear hb7 hy7))
          clear z0 z1 z2 u0 u1 hwf HRF HBY6 HBD6
          have hbd7 : Below w7.heap.size w7 w7.drew := ⟨rfl, rfl, rfl, Nat.le_refl _, fun _ _ => rfl⟩
          have hcp := copied_r a10 c10 xs w7.drew ((show Sn w7 (.slice a10 xs.length c10) xs by have h1 := sn_of_owns H7.out.1; rw [HXS.out.2.2.1] at h1; exact h1).below hbd7) (by rw [← HXS.out.2.2.1]; omega)
          rw [← HXS.out.2.2.1] at hcp
          have HCP := hid (And.intro hcp hbd7)
          obtain ⟨z0, -⟩ := HC6.out w7 HB7.out
          have HC7 := hid (fun (W : World) (hb : Below w7.heap.size w7 W) => (HC6.out W (bel_on HB7.out hb)).1)
          obtain ⟨bw, bl, hcr, -⟩ := HR.out
          have HCR := hid (hcr.below (bel_on HQ9.out.2.2.2.1 HB7.out))
          have hwl := whL_len (pksOf pk) k D.files (Nat.le_of_lt hlt)
          have hlol := loL_len (pksOf pk) k D.files (Nat.le_of_lt hlt)
          have HWL := hid (And.intro hwl hlol)
          have HOLD := hid (show ∀ q, (Value.slice aw k cw).ownBlock = some q → q < wr.heap.size from fun q e => (hcr.w.lt q e).2)
          have HOLDB := hid (show (∀ g ∈ whL (pksOf pk) k D.files, ∀ q, (bw g.no).ownBlock = some q → q < wr.heap.size) ∧ ∀ g ∈ loL (pksOf pk) k D.files, ∀ q, (bl g.no).ownBlock = some q → q < wr.heap.size from ⟨fun g hg q e => ((hcr.dw g hg).lt q e).2, fun g hg q e => ((hcr.dl g hg).lt q e).2⟩)
          have HNO := hid (show (∀ g ∈ whL (pksOf pk) k D.files, g.no ≠ f.no) ∧ ∀ g ∈ loL (pksOf pk) k D.files, g.no ≠ f.no from by
            have hnd := H.out.2.1.nd
            have key : f.no ∉ (D.files.take k).map Fi.no := fun hm => by
              obtain ⟨g, hg, e⟩ := List.mem_map.1 hm
              obtain ⟨i, hi⟩ := List.mem_iff_getElem?.1 hg
              have hik : i < k := by have := (List.getElem?_eq_some_iff.1 hi).1; rw [List.length_take] at this; omega
              rw [List.getElem?_take_of_lt hik] at hi
              have h1 : (D.files.map Fi.no)[i]? = some f.no := by rw [List.getElem?_map, hi, ← e]; rfl
              have h2 : (D.files.map Fi.no)[k]? = some f.no := by rw [List.getElem?_map, HKF.out.1]; rfl
              have := (List.getElem?_inj (List.getElem?_eq_some_iff.1 h1).1 hnd).1 (h1.trans h2.symm)
              omega
            exact ⟨fun g hg e => key (by have h1 := List.mem_map_of_mem (f := Fi.no) hg; rw [whL_no, e] at h1; exact h1), fun g hg e => key (by have h1 := List.mem_map_of_mem (f := Fi.no) hg; rw [loL_no, e] at h1; exact h1)⟩)
          clear hcr hbd7 hcp hwl hlol
          go_upto_region 15 with fail
          go_region_law
            (first
              | (refine step_append_rf _ (by rfl) (.tmp 74) (.tmp 80) 54 141 _ 3 56 (by rfl) Tryz.underlying54 Tryz.info141 rfl (by omega) W4.heap.size (.slice aw k cw) k ((whL (pksOf pk) k D.files).flatMap (fcb bw)) (by rfl) (H8.out.2.2.alloc _) (.slice (some ⟨w8.heap.size, 0, none⟩) 1 1) 1 [.int .i64 f.no, .slice a8 L c8, .slice none 0 0] (by rfl) (rf_new w8 141 #[.int .i64 f.no, .slice a8 L c8, .slice none 0 0] 3 rfl (ones3 _ _ _ rfl rfl rfl)) (by omega) (by unfold maxLen; omega) HZ8.out ?_; intro a9 c9 w9 hown hgr hob; have HGR := hid (And.intro hown.out (And.intro hgr.out hob.out)); clear hown hgr hob)
              | (go_simp; go_wp2_with (go_at_call 105; refine HCP.out.1.mono ?_; rintro e w8 ⟨v8, rfl, ho8, hb8⟩; obtain ⟨a8, c8, rfl⟩ := own_shape ho8; have HB8 := hid (bel_on HCP.out.2 hb8); have zz8 := HC7.out _ (bel_on HCP.out.2 hb8); have hcr8 := HCR.out.below (bel_on HCP.out.2 hb8); have hw8 := hcr8.w; rw [HWL.out.1] at hw8; have HZ8 := hid (show W4.heap.size ≤ (w8.alloc (.cells #[.int .i64 f.no, .slice a8 L c8, .slice none 0 0] 141)).heap.size by have h1 := HQ9.out.2.2.1.size; have h2 := HB7.out.size; have h3 := HB8.out.size; simp; omega); have H8 := hid (And.intro (show w8.ownsRow w7.heap.size 5 1 (.slice a8 L c8) L (B8 xs) from ho8) (And.intro hcr8 hw8)); clear ho8 hb8 hcr8 hw8)))
          all_goals
            have hk89 : Kept (fun q => (Value.slice aw k cw).ownBlock = some q) w8 w9 := ((Kept.refl _ w8).alloc _).grown HGR.out.2.1 (fun _ _ e => e)
            have hsep8 : ∀ q, wr.heap.size ≤ q → ¬ (Value.slice aw k cw).ownBlock = some q := fun q h1 e => by have := HOLD.out q e; omega
            have hw8 := H8.out.2.2
            refine cutG (fun W => CrL W4.heap.size W (.slice a9 (k + 1) c9) (.slice al k cl) (fun m => if m = f.no then .slice a8 L c8 else bw m) bl (whL (pksOf pk) (k + 1) D.files) (loL (pksOf pk) k D.files) ∧ W.ownsRow W6.heap.size 5 1 (.slice a10 L c10) L (B8 xs) ∧ W.ownsRow W6.heap.size 4 1 (.slice a11 L c11) L (BB fs0) ∧ W.heap[q8]? = some (.cells #[.int .i64 pp.done, .slice alv pp.lost.length clv] 91 (0, 0)) ∧ W.heap[q9]? = some (.cells #[.int .i64 f.no, .slice abv f.safe.length cbv, .slice ap f.cs.length cpv] 141 (0, 0)) ∧ Below W4.heap.size W4 W ∧ w7.heap.size ≤ W.heap.size) (by
              have h7a := ownsRow_kept (ownsRow_kept H7.out.1 (Kept.ofBelow HB8.out) (fun _ _ e => e)) hk89 (fun q e e2 => owns_ne (ownsRow_kept H7.out.1 (Kept.ofBelow HB8.out) (fun _ _ e => e)) hw8 (by decide) q e e2)
              have h7b := ownsRow_kept (ownsRow_kept H7.out.2 (Kept.ofBelow HB8.out) (fun _ _ e => e)) hk89 (fun q e e2 => owns_ne (ownsRow_kept H7.out.2 (Kept.ofBelow HB8.out) (fun _ _ e => e)) hw8 (by decide) q e e2)
              have h8q := hp_kept (hp_below (hp_below HQ9.out.2.1 HB7.out HQ9.out.2.2.2.2.1) HB8.out (Nat.lt_of_lt_of_le HQ9.out.2.2.2.2.1 HB7.out.size)) hk89 (hsep8 q8 HQ9.out.2.2.2.2.2.2.1)
              have h9q := hp_kept (hp_below (hp_below HQ9.out.1 HB7.out HQ9.out.2.2.2.2.2.1) HB8.out (Nat.lt_of_lt_of_le HQ9.out.2.2.2.2.2.1 HB7.out.size)) hk89 (hsep8 q9 HQ9.out.2.2.2.2.2.2.2)
              have hb49 : Below W4.heap.size W4 w9 := (bel_on (bel_on HQ9.out.2.2.1 HB7.out) HB8.out).trans (hk89.below (bel_on (bel_on HQ9.out.2.2.1 HB7.out) HB8.out).size (fun q hq e => by have := (hw8.lt q e).1; omega))
              refine ⟨?_, h7a, h7b, h8q, h9q, hb49, Nat.le_trans HB8.out.size hk89.size⟩
              have hpu := H8.out.2.1.push f.no xs HNO.out.1 (v1 := .slice a8 L c8) (by rw [← HXS.out.2.2.1]; exact owns_mono H8.out.1 (Nat.le_trans HQ9.out.2.2.1.size HB7.out.size)) (v' := .slice a9 (k + 1) c9) (by rw [HWL.out.1]; exact HGR.out.1) HGR.out.2.1 HGR.out.2.2
              rw [whL_succ _ _ _ _ HKF.out.1]
              have e : whF (pksOf pk) k f = ⟨f.no, xs, []⟩ := by unfold whF; rw [HLN.out.2.2, HXS.out.1]
              rw [e]
              exact hpu) ?_
            rintro W9 ⟨hcr9, hb9, hf9, hq89, hq99, hb49, hz79⟩
            have HSEP := hid (show ∀ q, (Value.slice a10 L c10).ownBlock = some q → (Value.slice a9 (k + 1) c9).ownBlock ≠ some q ∧ (Value.slice al k cl).ownBlock ≠ some q ∧ (∀ g ∈ whL (pksOf pk) (k + 1) D.files, ((fun m => if m = f.no then Value.slice a8 L c8 else bw m) g.no).ownBlock ≠ some q) ∧ ∀ g ∈ loL (pksOf pk) k D.files, (bl g.no).ownBlock ≠ some q from fun q e => by
              have h6 := H7.out.1.lt q e
              have h7 := HQ9.out.2.2.2.1.size
              refine ⟨fun e2 => owns_ne hb9 hcr9.w (by decide) q e e2, fun e2 => owns_ne hb9 hcr9.l (by decide) q e e2, fun g hg e2 => ?_, fun g hg e2 => by have := HOLDB.out.2 g hg q e2; omega⟩
              rw [whL_succ _ _ _ _ HKF.out.1] at hg
              rcases List.mem_append.1 hg with hg | hg
              · simp only [if_neg (HNO.out.1 g hg)] at e2
                have := HOLDB.out.1 g hg q e2
                omega
              · rw [List.mem_singleton.1 hg] at e2
                simp only [whF, if_true] at e2
                have := (H8.out.1.lt q e2).1
                omega)
            have H9 := hid (And.intro hcr9 (And.intro hb9 (And.intro hf9 (And.intro hq89 (And.intro hq99 (And.intro hb49 hz79))))))
            have HSEC := hid (show ((L : Int) + 16 - 1) / 16 = (secs L : Nat) by unfold secs; omega)
            clear hcr9 hb9 hf9 hq89 hq99 hb49 hz79 hk89 hsep8 hw8 HGR z0
            go_upto_region 17 with fail
            rw [HSEC.out]
            obtain ⟨sn, hsn⟩ : ∃ sn : Nat, sn = secs L := ⟨_, rfl⟩
            rw [← hsn]
            have HSN := hid hsn
            have HSL := hid (show sn * 16 ≤ L + 15 ∧ L ≤ sn * 16 ∧ sn ≤ 262144 by rw [hsn]; unfold secs; omega)
            clear hsn HSEC H8 H7 HB8 HCP HC7 HCR HOLD HOLDB
            go_wp2_with fail
            go_loopw [13] (fun ix wq => ∃ j : Nat, j ≤ pp.lost.length ∧ ix = .int .i64 j ∧ Hid (wq.ownsRow W6.heap.size 5 1 (.slice a10 L c10) L (B8 (loseAll fs0 (pp.lost.take j) xs)) ∧ Kept (fun q => (Value.slice a10 L c10).ownBlock = some q) W9 wq)) (fun ix _ => pp.lost.length - (intOf ix).toNat)
            case atStart => exact ⟨0, Nat.zero_le _, rfl, hid ⟨H9.out.2.1, Kept.refl _ _⟩⟩
            case round =>
              rename World => wq
              obtain ⟨j, hj, rfl, HQ⟩ := hrel
              have hq8w := hp_kept H9.out.2.2.2.1 HQ.out.2 (fun e => by have h1 := (H9.out.2.1.lt q8 e).1; have h2 := HQ9.out.2.2.2.2.1; omega)
              have hb4q : Below W4.heap.size W4 wq := H9.out.2.2.2.2.2.1.trans (HQ.out.2.below H9.out.2.2.2.2.2.1.size (fun q hq e => by have h1 := (H9.out.2.1.lt q e).1; have h2 := HQ9.out.2.2.1.size; omega))
              obtain ⟨-, s1⟩ := cells2 hq8w
              clear hq8w
              by_cases hjl : j < pp.lost.length
              · by_cases hsp : 0 < sn
                · have j1 : (j : Int) < (pp.lost.length : Int) := by omega
                  have s0 : (0 : Int) < (sn : Int) := by omega
                  have hL0 : 0 < L := by have := HSL.out; rcases Nat.eq_zero_or_pos L with e | e; (rw [HSN.out, e] at hsp; simp [secs] at hsp); exact e
                  obtain ⟨blx, ofx, capx, e, -, -, hcell⟩ := Rf.elem (m := 1) (f := fun x => [Value.int .i64 x]) (fun _ => rfl) (by omega) (HLN.out.1 wq hb4q) j hjl
                  injection e with e1 e2 e3
                  clear e2
                  rw [e1, e3] at s1
                  clear e1 e3
                  have hvI := HLN.out.2.1 _ (List.getElem_mem hjl)
                  have htk : pp.lost.take (j + 1) = pp.lost.take j ++ [pp.lost[j]] := List.take_succ_eq_append_getElem hjl
                  obtain ⟨v, hv⟩ : ∃ v, v = pp.lost[j] := ⟨_, rfl⟩
                  rw [← hv] at hcell hvI htk
                  have g0 : wq.cell? ⟨blx, ofx + j, none⟩ = some (.int .i64 v) := by have h1 := hcell 0 _ rfl; rw [Nat.mul_one, Nat.add_zero] at h1; exact h1
                  obtain ⟨sc, hsc⟩ : ∃ sc, sc = (v % (sn : Int)).toNat := ⟨_, rfl⟩
                  have hscv : v % (sn : Int) = (sc : Int) := by rw [hsc, Int.toNat_of_nonneg (Int.emod_nonneg _ (by omega))]
                  have hscl : sc < sn := by have := Int.emod_lt_of_pos v s0; omega
                  have hs1 : 16 * sc ≤ L := by have := HSL.out; omega
                  have HRR := hid (show ∀ W, Calls Tryz.prog 114 #[.int .i64 v, .int .i64 (sn : Int)] W fun x w' => x = .returned (.int .i64 (sc : Nat)) ∧ w' = W from fun W => by rw [← hscv]; exact rround_any v sn W hvI (by omega) (by have := HSL.out; omega))
                  have HTK := hid (show loseAll fs0 (pp.lost.take (j + 1)) xs = loseS fs0 (loseAll fs0 (pp.lost.take j) xs) sc by
                    rw [htk]
                    unfold loseAll
                    rw [List.foldl_append]
                    show loseS fs0 _ (v % (secs (loseAll fs0 (pp.lost.take j) xs).length : Int)).toNat = _
                    rw [loseAll_len, ← HXS.out.2.2.1, ← HSN.out, ← hsc])
                  clear hcell hvI htk hv hsc hscv hscl hb4q
                  obtain ⟨g10, cc10, e10⟩ := own_some H9.out.2.1 hL0
                  injection e10 with e10 _ e12
                  clear e12
                  obtain ⟨g11, cc11, e11⟩ := own_some H9.out.2.2.1 hL0
                  injection e11 with e11 _ e13
                  clear e13
                  subst e10 e11
                  obtain ⟨X, hX⟩ : ∃ X, X = loseAll fs0 (pp.lost.take j) xs := ⟨_, rfl⟩
                  have hXl : X.length = L := by rw [hX, loseAll_len, ← HXS.out.2.2.1]
                  have HQX := hid (show wq.ownsRow W6.heap.size 5 1 (.slice (some ⟨g10, 0, none⟩) L c10) L (B8 X) ∧ Kept (fun q => (Value.slice (some ⟨g10, 0, none⟩) L c10).ownBlock = some q) W9 wq from ⟨by rw [hX]; exact HQ.out.1, HQ.out.2⟩)
                  have HTX := hid (show loseAll fs0 (pp.lost.take (j + 1)) xs = loseS fs0 X sc from by rw [hX]; exact HTK.out)
                  have HXL := hid hXl
                  clear hX hXl HQ HTK
                  go_upto_region 21 with (
                    go_at_call 114
                    refine (HRR.out _).mono ?_
                    rintro e w' ⟨rfl, e1⟩
                    rw [e1]
                    clear e1 w')
                  obtain ⟨av, hav⟩ : ∃ av : Nat, av = 16 * sc := ⟨_, rfl⟩
                  rw [show (16 : Int) * (sc : Int) = (av : Int) by omega]
                  have HAV := hid hav
                  rw [← hav] at hs1
                  clear hav
                  clear s1 g0 HRR
                  go_wp2_with fail
                  go_loopw [15] (fun ix wz => ∃ i : Nat, av ≤ i ∧ i ≤ min (av + 16) L ∧ ix = .int .i64 i ∧ Hid (wz.ownsRow W6.heap.size 5 1 (.slice (some ⟨g10, 0, none⟩) L c10) L (B8 (loseTo av i X fs0)) ∧ Kept (fun q => (Value.slice (some ⟨g10, 0, none⟩) L c10).ownBlock = some q) W9 wz)) (fun ix _ => L - (intOf ix).toNat)
                  case atStart => exact ⟨av, Nat.le_refl _, by omega, by go_num, hid ⟨by rw [loseTo_start]; exact HQX.out.1, HQX.out.2⟩⟩
                  case round =>
                    rename World => wz
                    obtain ⟨i, hi1, hi2, rfl, HZ⟩ := hrel
                    by_cases hlt : i < av + 16
                    · have i1 : (i : Int) < (av : Int) + 16 := by omega
                      by_cases hin : i < L
                      · have i2 : (i : Int) < (L : Int) := by omega
                        have hfw := ownsRow_kept H9.out.2.2.1 HZ.out.2 (fun q e e2 => owns_ne H9.out.2.1 H9.out.2.2.1 (by decide) q e2 e)
                        obtain ⟨bb, hbk⟩ : ∃ bb, fs0[i]? = some bb := ⟨fs0[i]'(by rw [HXS.out.2.2.2]; exact hin), by simp [HXS.out.2.2.2, hin]⟩
                        have cf : wz.cell? ⟨g11, i, none⟩ = some (.bool bb) := by
                          have h1 := hfw.cells (g := g11) rfl i (.bool bb) (by simp [BB, hbk])
                          rwa [add_lit, Nat.zero_add] at h1
                        obtain ⟨y, hy⟩ : ∃ y, (loseTo av i X fs0)[i]? = some y := ⟨(loseTo av i X fs0)[i]'(by rw [loseTo_len, HXL.out]; exact hin), by simp [loseTo_len, HXL.out, hin]⟩
                        have cd : wz.cell? ⟨g10, i, none⟩ = some (.int .u8 y) := by
                          have h1 := HZ.out.1.cells (g := g10) rfl i (.int .u8 y) (by simp [B8, hy])
                          rwa [add_lit, Nat.zero_add] at h1
                        obtain ⟨cs0, hcs0⟩ := owns_block HZ.out.1 g10 rfl
                        have fz := free_of_block (o := i) hcs0
                        have HBK := hid hbk
                        clear hfw hcs0 hy hbk
                        cases bb with
                        | true =>
                          go_wp2_with fail
                          go_roundw
                          case rel => exact ⟨i + 1, by omega, by omega, by go_num, hid ⟨by rw [← loseTo_yes _ _ _ _ hi1 HBK.out]; exact own_set HZ.out.1 i 0, HZ.out.2.setCell (p := ⟨g10, i, none⟩) (fun _ => rfl) _⟩⟩
                          case measure => simp [intOf]; omega
                        | false =>
                          go_wp2_with fail
                          go_roundw
                          case rel => exact ⟨i + 1, by omega, by omega, by go_num, hid ⟨by rw [← loseTo_no _ _ _ _ HBK.out]; exact HZ.out.1, HZ.out.2⟩⟩
                          case measure => simp [intOf]; omega
                      · have i2 : ¬ (i : Int) < (L : Int) := by omega
                        have HI := hid (show i = min (16 * sc + 16) X.length by rw [HXL.out, ← HAV.out]; omega)
                        go_wp2_with fail
                        go_roundw
                        case rel => exact ⟨j + 1, by omega, by go_num, hid ⟨by rw [HTX.out]; unfold loseS; rw [← HI.out, ← HAV.out]; exact HZ.out.1, HZ.out.2⟩⟩
                        case measure => simp [intOf]; omega
                    · have i1 : ¬ (i : Int) < (av : Int) + 16 := by omega
                      have HI := hid (show i = min (16 * sc + 16) X.length by rw [HXL.out, ← HAV.out]; omega)
                      go_wp2_with fail
                      go_roundw
                      case rel => exact ⟨j + 1, by omega, by go_num, hid ⟨by rw [HTX.out]; unfold loseS; rw [← HI.out, ← HAV.out]; exact HZ.out.1, HZ.out.2⟩⟩
                      case measure => simp [intOf]; omega
                · have j1 : (j : Int) < (pp.lost.length : Int) := by omega
                  have s0 : ¬ (0 : Int) < (sn : Int) := by omega
                  have HE := hid (show loseAll fs0 (pp.lost.take j) xs = loseAll fs0 pp.lost xs by
                    have h0 : xs = [] := List.length_eq_zero_iff.1 (by have := HSL.out; rw [← HXS.out.2.2.1]; omega)
                    rw [h0, loseAll_nil, loseAll_nil])
                  have hcrq := H9.out.1.kept HQ.out.2 (fun q e _ => HSEP.out q e)
                  have hq9w := hp_kept H9.out.2.2.2.2.1 HQ.out.2 (fun e => by have h1 := (H9.out.2.1.lt q9 e).1; have h2 := HQ9.out.2.2.2.2.2.1; omega)
                  obtain ⟨z0, -⟩ := cells3 hq9w
                  have hlo := hcrq.l
                  rw [HWL.out.2] at hlo
                  have HT := hid (And.intro hcrq (And.intro hlo hb4q))
                  have HZ26 := hid (show W4.heap.size ≤ (wq.alloc (.cells #[.int .i64 f.no, .slice a10 L c10, .slice none 0 0] 141)).heap.size by have := hb4q.size; simp; omega)
                  clear hcrq hq9w hlo hb4q
                  go_upto_region 26 with fail
                  go_wp2_with (
                    at_builtin
                    refine wpList_append_rf _ rfl (.tmp 126) (.tmp 131) 54 141 _ 3 56 rfl Tryz.underlying54 Tryz.info141 rfl (by omega) W4.heap.size (.slice al k cl) k _ rfl (HT.out.2.1.alloc _) (.slice (some ⟨wq.heap.size, 0, none⟩) 1 1) 1 [.int .i64 f.no, .slice a10 L c10, .slice none 0 0] rfl (rf_new wq 141 #[.int .i64 f.no, .slice a10 L c10, .slice none 0 0] 3 rfl (ones3 _ _ _ rfl rfl rfl)) (by omega) (by unfold maxLen; omega) HZ26.out ?_
                    intro a26 c26 w26 hown hgr hob
                    have hkx : Kept (fun q => (Value.slice al k cl).ownBlock = some q) wq w26 := ((Kept.refl _ wq).alloc _).grown hgr.out (fun _ _ e => e)
                    have hb26 : Below W4.heap.size W4 w26 := HT.out.2.2.trans (hkx.below HT.out.2.2.size (fun q hq e => by have := (HT.out.1.l.lt q e).1; omega))
                    have hpu := (HT.out.1.swap.push f.no (loseAll fs0 pp.lost xs) HNO.out.2 (v1 := .slice a10 L c10) (by rw [loseAll_len, ← HXS.out.2.2.1, ← HE.out]; exact owns_mono HQ.out.1 HQ9.out.2.2.1.size) (v' := .slice a26 (k + 1) c26) (by rw [HWL.out.2]; exact hown.out) hgr.out hob.out).swap
                    have H26 := hid (show CrL W4.heap.size w26 (.slice a9 (k + 1) c9) (.slice a26 (k + 1) c26) (fun m => if m = f.no then .slice a8 L c8 else bw m) (fun m => if m = f.no then .slice a10 L c10 else bl m) (whL (pksOf pk) (k + 1) D.files) (loL (pksOf pk) (k + 1) D.files) ∧ Below W4.heap.size W4 w26 from ⟨by
                      rw [loL_succ _ _ _ _ HKF.out.1]
                      have e : crashF (pkAt (pksOf pk) k) f = ⟨f.no, loseAll fs0 pp.lost xs, []⟩ := by unfold crashF; rw [HLN.out.2.2, HXS.out.1, HXS.out.2.1]
                      rw [e]
                      exact hpu, hb26⟩)
                    clear hown hgr hob hkx hb26 hpu)
                  clear z0 s1
                  go_roundw
                  case rel => first | exact ⟨k + 1, a9, c9, a26, c26, by omega, rfl, rfl, by go_num, hid ⟨_, _, H26.out.1, H26.out.2⟩⟩ | ((repeat apply Exists.intro); exact ⟨⟨k + 1, a9, c9, a26, c26, by omega, rfl, rfl, by go_num, hid ⟨_, _, H26.out.1, H26.out.2⟩⟩, rfl⟩)
                  case measure => simp [intOf]; omega
              · have j1 : ¬ (j : Int) < (pp.lost.length : Int) := by omega
                have HE := hid (show loseAll fs0 (pp.lost.take j) xs = loseAll fs0 pp.lost xs by rw [List.take_of_length_le (by omega)])
                have hcrq := H9.out.1.kept HQ.out.2 (fun q e _ => HSEP.out q e)
                have hq9w := hp_kept H9.out.2.2.2.2.1 HQ.out.2 (fun e => by have h1 := (H9.out.2.1.lt q9 e).1; have h2 := HQ9.out.2.2.2.2.2.1; omega)
                obtain ⟨z0, -⟩ := cells3 hq9w
                have hlo := hcrq.l
                rw [HWL.out.2] at hlo
                have HT := hid (And.intro hcrq (And.intro hlo hb4q))
                have HZ26 := hid (show W4.heap.size ≤ (wq.alloc (.cells #[.int .i64 f.no, .slice a10 L c10, .slice none 0 0] 141)).heap.size by have := hb4q.size; simp; omega)
                clear hcrq hq9w hlo hb4q
                go_upto_region 26 with fail
                go_wp2_with (
                  at_builtin
                  refine wpList_append_rf _ rfl (.tmp 126) (.tmp 131) 54 141 _ 3 56 rfl Tryz.underlying54 Tryz.info141 rfl (by omega) W4.heap.size (.slice al k cl) k _ rfl (HT.out.2.1.alloc _) (.slice (some ⟨wq.heap.size, 0, none⟩) 1 1) 1 [.int .i64 f.no, .slice a10 L c10, .slice none 0 0] rfl (rf_new wq 141 #[.int .i64 f.no, .slice a10 L c10, .slice none 0 0] 3 rfl (ones3 _ _ _ rfl rfl rfl)) (by omega) (by unfold maxLen; omega) HZ26.out ?_
                  intro a26 c26 w26 hown hgr hob
                  have hkx : Kept (fun q => (Value.slice al k cl).ownBlock = some q) wq w26 := ((Kept.refl _ wq).alloc _).grown hgr.out (fun _ _ e => e)
                  have hb26 : Below W4.heap.size W4 w26 := HT.out.2.2.trans (hkx.below HT.out.2.2.size (fun q hq e => by have := (HT.out.1.l.lt q e).1; omega))
                  have hpu := (HT.out.1.swap.push f.no (loseAll fs0 pp.lost xs) HNO.out.2 (v1 := .slice a10 L c10) (by rw [loseAll_len, ← HXS.out.2.2.1, ← HE.out]; exact owns_mono HQ.out.1 HQ9.out.2.2.1.size) (v' := .slice a26 (k + 1) c26) (by rw [HWL.out.2]; exact hown.out) hgr.out hob.out).swap
                  have H26 := hid (show CrL W4.heap.size w26 (.slice a9 (k + 1) c9) (.slice a26 (k + 1) c26) (fun m => if m = f.no then .slice a8 L c8 else bw m) (fun m => if m = f.no then .slice a10 L c10 else bl m) (whL (pksOf pk) (k + 1) D.files) (loL (pksOf pk) (k + 1) D.files) ∧ Below W4.heap.size W4 w26 from ⟨by
                    rw [loL_succ _ _ _ _ HKF.out.1]
                    have e : crashF (pkAt (pksOf pk) k) f = ⟨f.no, loseAll fs0 pp.lost xs, []⟩ := by unfold crashF; rw [HLN.out.2.2, HXS.out.1, HXS.out.2.1]
                    rw [e]
                    exact hpu, hb26⟩)
                  clear hown hgr hob hkx hb26 hpu)
                clear z0 s1
                go_roundw
                case rel => first | exact ⟨k + 1, a9, c9, a26, c26, by omega, rfl, rfl, by go_num, hid ⟨_, _, H26.out.1, H26.out.2⟩⟩ | ((repeat apply Exists.intro); exact ⟨⟨k + 1, a9, c9, a26, c26, by omega, rfl, rfl, by go_num, hid ⟨_, _, H26.out.1, H26.out.2⟩⟩, rfl⟩)
                case measure => simp [intOf]; omega
        · have i2 : ¬ (k : Int) < (pk.length : Int) := by omega
          have hidn : I64 0 := by constructor <;> omega
          have hll2 : ([] : List Int).length ≤ 300 := Nat.zero_le _
          have HLN := hid (show (∀ W, Below W4.heap.size W4 W → Ln W (.slice none 0 0) []) ∧ (∀ x ∈ ([] : List Int), I64 x) ∧ pkAt (pksOf pk) k = (0, []) from ⟨fun W _ => rf_nil _ 1, fun x hx => (by cases hx), pkAt_none pk k hkp⟩)
          go_upto_region 13 with fail
          clear p0 p1 c3
          refine cutG (fun W => Below wr.heap.size wr W ∧ W.heap[wr.heap.size]? = some (.cells #[.int .i64 0, .slice none ([] : List Int).length 0] 91 (0, 0))) ⟨bel_al _ _, hp_new wr _⟩ ?_
          rintro W5 ⟨hb5, hx8⟩
          obtain ⟨q8, hq8⟩ : ∃ q8, q8 = wr.heap.size := ⟨_, rfl⟩
          rw [← hq8] at hx8 ⊢
          have hb45 := bel_on HBK.out hb5
          obtain ⟨c3, y0, y1, y2, -⟩ := HCC.out W5 hb45
          have HQ8 := hid (And.intro hq8 (And.intro hx8 (And.intro hb45 hb5)))
          clear hq8 hx8 hb5
          go_upto_region 14 with fail
          refine cutG (fun W => Below W5.heap.size W5 W ∧ W.heap[W5.heap.size]? = some (.cells #[.int .i64 f.no, .slice abv f.safe.length cbv, .slice ap f.cs.length cpv] 141 (0, 0))) ⟨bel_al _ _, hp_new W5 _⟩ ?_
          rintro W6 ⟨hb6, hx9⟩
          clear c3 y0 y1 y2
          obtain ⟨q9, hq9⟩ : ∃ q9, q9 = W5.heap.size := ⟨_, rfl⟩
          rw [← hq9] at hx9 ⊢
          have hx86 := hp_below HQ8.out.2.1 hb6 (hp_lt HQ8.out.2.1)
          have hb46 := bel_on hb45 hb6
          obtain ⟨z0, z1, z2⟩ := cells3 hx9
          obtain ⟨u0, u1⟩ := cells2 hx86
          have HQ9 := hid (And.intro hx9 (And.intro hx86 (And.intro hb46 (And.intro (bel_on HQ8.out.2.2.2 hb6) (And.intro (hp_lt hx86) (And.intro (hp_lt hx9) (show wr.heap.size ≤ q8 ∧ wr.heap.size ≤ q9 by rw [hq9]; exact ⟨Nat.le_of_eq HQ8.out.1.symm, HQ8.out.2.2.2.size⟩)))))))
          have HC6 := hid (fun (W : World) (hb : Below W6.heap.size W6 W) => And.intro ((hb.cell (World.block_lt_of_cell? _ _ z0)).trans z0) (And.intro ((hb.cell (World.block_lt_of_cell? _ _ z1)).trans z1) (And.intro ((hb.cell (World.block_lt_of_cell? _ _ z2)).trans z2) ((hb.cell (World.block_lt_of_cell? _ _ u0)).trans u0))))
          have hbd6 : Below W6.heap.size W6 W6.drew := ⟨rfl, rfl, rfl, Nat.le_refl _, fun _ _ => rfl⟩
          have HBD6 := hid hbd6
          have hby6 := HBY.out (0) W6.drew (bel_on hb46 hbd6)
          obtain ⟨xs, hxs⟩ : ∃ xs, xs = (wholeF (0) f).1 := ⟨_, rfl⟩
          obtain ⟨fs0, hfs⟩ : ∃ fs0, fs0 = (wholeF (0) f).2 := ⟨_, rfl⟩
          obtain ⟨L, hL⟩ : ∃ L : Nat, L = xs.length := ⟨_, rfl⟩
          have hfl0 : fs0.length = L := by rw [hL, hxs, hfs]; exact rowC_l _ _
          have HBY6 := hid (show Calls Tryz.prog 106 #[.agg #[.int .i64 f.no, .slice abv f.safe.length cbv, .slice ap f.cs.length cpv], .int .i64 (firstN (0) f.cs.length : Nat)] W6.drew fun e w' => ∃ v1 v2, e = .returned (.tuple #[v1, v2]) ∧ (w'.ownsRow W6.heap.size 5 1 v1 L (B8 xs) ∧ w'.ownsRow W6.heap.size 4 1 v2 L (BB fs0)) ∧ Below W6.heap.size W6 w' from by
            rw [← hxs, ← hfs] at hby6
            refine hby6.mono ?_
            rintro e w' ⟨v1, v2, rfl, h1, h2⟩
            exact ⟨v1, v2, rfl, ⟨by rw [hL]; exact h1.a, by rw [hL]; exact h1.b⟩, bel_on hbd6 h2⟩)
          have hxl : L ≤ 4194304 := by rw [hL, hxs]; exact Nat.le_trans (take_le_peak _ _ _) hpkf
          have HXS := hid (And.intro hxs (And.intro hfs (And.intro hL hfl0)))
          have HRF := hid (fun (W : World) => rround_first (0) f.cs.length W hidn (by omega))
          clear hbd6 hb6 hx9 hx86 hb45 hb46 hq9 hxs hfs hby6 hL hfl0
          go_region_held3 (fun wx => wx.cell? ⟨q9, 0, none⟩ = some (.int .i64 f.no) ∧ wx.cell? ⟨q9, 1, none⟩ = some (.slice abv f.safe.length cbv) ∧ wx.cell? ⟨q9, 2, none⟩ = some (.slice ap f.cs.length cpv) ∧ wx.cell? ⟨q8, 0, none⟩ = some (.int .i64 0)) (first | exact HC6.out _ HB7.out | exact HC6.out _ HBD6.out) (first
            | (go_at_call 114; refine (HRF.out _).mono ?_; rintro e w' ⟨rfl, e1⟩; rw [e1]; clear e1 w')
            | (go_at_call 106
               refine HBY6.out.mono ?_
               rintro e w7 ⟨v1, v2, rfl, hy7, hb7⟩
               have HB7 := hid hb7
               obtain ⟨a10, c10, rfl⟩ := own_shape hy7.1
               obtain ⟨a11, c11, rfl⟩ := own_shape hy7.2
               have H7 := hid hy7
               clear hb7 hy7))
          clear z0 z1 z2 u0 u1 hwf HRF HBY6 HBD6
          have hbd7 : Below w7.heap.size w7 w7.drew := ⟨rfl, rfl, rfl, Nat.le_refl _, fun _ _ => rfl⟩
          have hcp := copied_r a10 c10 xs w7.drew ((show Sn w7 (.slice a10 xs.length c10) xs by have h1 := sn_of_owns H7.out.1; rw [HXS.out.2.2.1] at h1; exact h1).below hbd7) (by rw [← HXS.out.2.2.1]; omega)
          rw [← HXS.out.2.2.1] at hcp
          have HCP := hid (And.intro hcp hbd7)
          obtain ⟨z0, -⟩ := HC6.out w7 HB7.out
          have HC7 := hid (fun (W : World) (hb : Below w7.heap.size w7 W) => (HC6.out W (bel_on HB7.out hb)).1)
          obtain ⟨bw, bl, hcr, -⟩ := HR.out
          have HCR := hid (hcr.below (bel_on HQ9.out.2.2.2.1 HB7.out))
          have hwl := whL_len (pksOf pk) k D.files (Nat.le_of_lt hlt)
          have hlol := loL_len (pksOf pk) k D.files (Nat.le_of_lt hlt)
          have HWL := hid (And.intro hwl hlol)
          have HOLD := hid (show ∀ q, (Value.slice aw k cw).ownBlock = some q → q < wr.heap.size from fun q e => (hcr.w.lt q e).2)
          have HOLDB := hid (show (∀ g ∈ whL (pksOf pk) k D.files, ∀ q, (bw g.no).ownBlock = some q → q < wr.heap.size) ∧ ∀ g ∈ loL (pksOf pk) k D.files, ∀ q, (bl g.no).ownBlock = some q → q < wr.heap.size from ⟨fun g hg q e => ((hcr.dw g hg).lt q e).2, fun g hg q e => ((hcr.dl g hg).lt q e).2⟩)
          have HNO := hid (show (∀ g ∈ whL (pksOf pk) k D.files, g.no ≠ f.no) ∧ ∀ g ∈ loL (pksOf pk) k D.files, g.no ≠ f.no from by
            have hnd := H.out.2.1.nd
            have key : f.no ∉ (D.files.take k).map Fi.no := fun hm => by
              obtain ⟨g, hg, e⟩ := List.mem_map.1 hm
              obtain ⟨i, hi⟩ := List.mem_iff_getElem?.1 hg
              have hik : i < k := by have := (List.getElem?_eq_some_iff.1 hi).1; rw [List.length_take] at this; omega
              rw [List.getElem?_take_of_lt hik] at hi
              have h1 : (D.files.map Fi.no)[i]? = some f.no := by rw [List.getElem?_map, hi, ← e]; rfl
              have h2 : (D.files.map Fi.no)[k]? = some f.no := by rw [List.getElem?_map, HKF.out.1]; rfl
              have := (List.getElem?_inj (List.getElem?_eq_some_iff.1 h1).1 hnd).1 (h1.trans h2.symm)
              omega
            exact ⟨fun g hg e => key (by have h1 := List.mem_map_of_mem (f := Fi.no) hg; rw [whL_no, e] at h1; exact h1), fun g hg e => key (by have h1 := List.mem_map_of_mem (f := Fi.no) hg; rw [loL_no, e] at h1; exact h1)⟩)
          clear hcr hbd7 hcp hwl hlol
          go_upto_region 15 with fail
          go_region_law
            (first
              | (refine step_append_rf _ (by rfl) (.tmp 74) (.tmp 80) 54 141 _ 3 56 (by rfl) Tryz.underlying54 Tryz.info141 rfl (by omega) W4.heap.size (.slice aw k cw) k ((whL (pksOf pk) k D.files).flatMap (fcb bw)) (by rfl) (H8.out.2.2.alloc _) (.slice (some ⟨w8.heap.size, 0, none⟩) 1 1) 1 [.int .i64 f.no, .slice a8 L c8, .slice none 0 0] (by rfl) (rf_new w8 141 #[.int .i64 f.no, .slice a8 L c8, .slice none 0 0] 3 rfl (ones3 _ _ _ rfl rfl rfl)) (by omega) (by unfold maxLen; omega) HZ8.out ?_; intro a9 c9 w9 hown hgr hob; have HGR := hid (And.intro hown.out (And.intro hgr.out hob.out)); clear hown hgr hob)
              | (go_simp; go_wp2_with (go_at_call 105; refine HCP.out.1.mono ?_; rintro e w8 ⟨v8, rfl, ho8, hb8⟩; obtain ⟨a8, c8, rfl⟩ := own_shape ho8; have HB8 := hid (bel_on HCP.out.2 hb8); have zz8 := HC7.out _ (bel_on HCP.out.2 hb8); have hcr8 := HCR.out.below (bel_on HCP.out.2 hb8); have hw8 := hcr8.w; rw [HWL.out.1] at hw8; have HZ8 := hid (show W4.heap.size ≤ (w8.alloc (.cells #[.int .i64 f.no, .slice a8 L c8, .slice none 0 0] 141)).heap.size by have h1 := HQ9.out.2.2.1.size; have h2 := HB7.out.size; have h3 := HB8.out.size; simp; omega); have H8 := hid (And.intro (show w8.ownsRow w7.heap.size 5 1 (.slice a8 L c8) L (B8 xs) from ho8) (And.intro hcr8 hw8)); clear ho8 hb8 hcr8 hw8)))
          all_goals
            have hk89 : Kept (fun q => (Value.slice aw k cw).ownBlock = some q) w8 w9 := ((Kept.refl _ w8).alloc _).grown HGR.out.2.1 (fun _ _ e => e)
            have hsep8 : ∀ q, wr.heap.size ≤ q → ¬ (Value.slice aw k cw).ownBlock = some q := fun q h1 e => by have := HOLD.out q e; omega
            have hw8 := H8.out.2.2
            refine cutG (fun W => CrL W4.heap.size W (.slice a9 (k + 1) c9) (.slice al k cl) (fun m => if m = f.no then .slice a8 L c8 else bw m) bl (whL (pksOf pk) (k + 1) D.files) (loL (pksOf pk) k D.files) ∧ W.ownsRow W6.heap.size 5 1 (.slice a10 L c10) L (B8 xs) ∧ W.ownsRow W6.heap.size 4 1 (.slice a11 L c11) L (BB fs0) ∧ W.heap[q8]? = some (.cells #[.int .i64 0, .slice none ([] : List Int).length 0] 91 (0, 0)) ∧ W.heap[q9]? = some (.cells #[.int .i64 f.no, .slice abv f.safe.length cbv, .slice ap f.cs.length cpv] 141 (0, 0)) ∧ Below W4.heap.size W4 W ∧ w7.heap.size ≤ W.heap.size) (by
              have h7a := ownsRow_kept (ownsRow_kept H7.out.1 (Kept.ofBelow HB8.out) (fun _ _ e => e)) hk89 (fun q e e2 => owns_ne (ownsRow_kept H7.out.1 (Kept.ofBelow HB8.out) (fun _ _ e => e)) hw8 (by decide) q e e2)
              have h7b := ownsRow_kept (ownsRow_kept H7.out.2 (Kept.ofBelow HB8.out) (fun _ _ e => e)) hk89 (fun q e e2 => owns_ne (ownsRow_kept H7.out.2 (Kept.ofBelow HB8.out) (fun _ _ e => e)) hw8 (by decide) q e e2)
              have h8q := hp_kept (hp_below (hp_below HQ9.out.2.1 HB7.out HQ9.out.2.2.2.2.1) HB8.out (Nat.lt_of_lt_of_le HQ9.out.2.2.2.2.1 HB7.out.size)) hk89 (hsep8 q8 HQ9.out.2.2.2.2.2.2.1)
              have h9q := hp_kept (hp_below (hp_below HQ9.out.1 HB7.out HQ9.out.2.2.2.2.2.1) HB8.out (Nat.lt_of_lt_of_le HQ9.out.2.2.2.2.2.1 HB7.out.size)) hk89 (hsep8 q9 HQ9.out.2.2.2.2.2.2.2)
              have hb49 : Below W4.heap.size W4 w9 := (bel_on (bel_on HQ9.out.2.2.1 HB7.out) HB8.out).trans (hk89.below (bel_on (bel_on HQ9.out.2.2.1 HB7.out) HB8.out).size (fun q hq e => by have := (hw8.lt q e).1; omega))
              refine ⟨?_, h7a, h7b, h8q, h9q, hb49, Nat.le_trans HB8.out.size hk89.size⟩
              have hpu := H8.out.2.1.push f.no xs HNO.out.1 (v1 := .slice a8 L c8) (by rw [← HXS.out.2.2.1]; exact owns_mono H8.out.1 (Nat.le_trans HQ9.out.2.2.1.size HB7.out.size)) (v' := .slice a9 (k + 1) c9) (by rw [HWL.out.1]; exact HGR.out.1) HGR.out.2.1 HGR.out.2.2
              rw [whL_succ _ _ _ _ HKF.out.1]
              have e : whF (pksOf pk) k f = ⟨f.no, xs, []⟩ := by unfold whF; rw [HLN.out.2.2, HXS.out.1]
              rw [e]
              exact hpu) ?_
            rintro W9 ⟨hcr9, hb9, hf9, hq89, hq99, hb49, hz79⟩
            have HSEP := hid (show ∀ q, (Value.slice a10 L c10).ownBlock = some q → (Value.slice a9 (k + 1) c9).ownBlock ≠ some q ∧ (Value.slice al k cl).ownBlock ≠ some q ∧ (∀ g ∈ whL (pksOf pk) (k + 1) D.files, ((fun m => if m = f.no then Value.slice a8 L c8 else bw m) g.no).ownBlock ≠ some q) ∧ ∀ g ∈ loL (pksOf pk) k D.files, (bl g.no).ownBlock ≠ some q from fun q e => by
              have h6 := H7.out.1.lt q e
              have h7 := HQ9.out.2.2.2.1.size
              refine ⟨fun e2 => owns_ne hb9 hcr9.w (by decide) q e e2, fun e2 => owns_ne hb9 hcr9.l (by decide) q e e2, fun g hg e2 => ?_, fun g hg e2 => by have := HOLDB.out.2 g hg q e2; omega⟩
              rw [whL_succ _ _ _ _ HKF.out.1] at hg
              rcases List.mem_append.1 hg with hg | hg
              · simp only [if_neg (HNO.out.1 g hg)] at e2
                have := HOLDB.out.1 g hg q e2
                omega
              · rw [List.mem_singleton.1 hg] at e2
                simp only [whF, if_true] at e2
                have := (H8.out.1.lt q e2).1
                omega)
            have H9 := hid (And.intro hcr9 (And.intro hb9 (And.intro hf9 (And.intro hq89 (And.intro hq99 (And.intro hb49 hz79))))))
            have HSEC := hid (show ((L : Int) + 16 - 1) / 16 = (secs L : Nat) by unfold secs; omega)
            clear hcr9 hb9 hf9 hq89 hq99 hb49 hz79 hk89 hsep8 hw8 HGR z0
            go_upto_region 17 with fail
            rw [HSEC.out]
            obtain ⟨sn, hsn⟩ : ∃ sn : Nat, sn = secs L := ⟨_, rfl⟩
            rw [← hsn]
            have HSN := hid hsn
            have HSL := hid (show sn * 16 ≤ L + 15 ∧ L ≤ sn * 16 ∧ sn ≤ 262144 by rw [hsn]; unfold secs; omega)
            clear hsn HSEC H8 H7 HB8 HCP HC7 HCR HOLD HOLDB
            go_wp2_with fail
            go_loopw [13] (fun ix wq => ∃ j : Nat, j ≤ ([] : List Int).length ∧ ix = .int .i64 j ∧ Hid (wq.ownsRow W6.heap.size 5 1 (.slice a10 L c10) L (B8 (loseAll fs0 (([] : List Int).take j) xs)) ∧ Kept (fun q => (Value.slice a10 L c10).ownBlock = some q) W9 wq)) (fun ix _ => ([] : List Int).length - (intOf ix).toNat)
            case atStart => exact ⟨0, Nat.zero_le _, rfl, hid ⟨H9.out.2.1, Kept.refl _ _⟩⟩
            case round =>
              rename World => wq
              obtain ⟨j, hj, rfl, HQ⟩ := hrel
              have hq8w := hp_kept H9.out.2.2.2.1 HQ.out.2 (fun e => by have h1 := (H9.out.2.1.lt q8 e).1; have h2 := HQ9.out.2.2.2.2.1; omega)
              have hb4q : Below W4.heap.size W4 wq := H9.out.2.2.2.2.2.1.trans (HQ.out.2.below H9.out.2.2.2.2.2.1.size (fun q hq e => by have h1 := (H9.out.2.1.lt q e).1; have h2 := HQ9.out.2.2.1.size; omega))
              obtain ⟨-, s1⟩ := cells2 hq8w
              clear hq8w
              by_cases hjl : j < ([] : List Int).length
              · exact absurd hjl (Nat.not_lt_zero _)
              · have j1 : ¬ (j : Int) < (([] : List Int).length : Int) := by omega
                have HE := hid (show loseAll fs0 (([] : List Int).take j) xs = loseAll fs0 ([] : List Int) xs by rw [List.take_of_length_le (by omega)])
                have hcrq := H9.out.1.kept HQ.out.2 (fun q e _ => HSEP.out q e)
                have hq9w := hp_kept H9.out.2.2.2.2.1 HQ.out.2 (fun e => by have h1 := (H9.out.2.1.lt q9 e).1; have h2 := HQ9.out.2.2.2.2.2.1; omega)
                obtain ⟨z0, -⟩ := cells3 hq9w
                have hlo := hcrq.l
                rw [HWL.out.2] at hlo
                have HT := hid (And.intro hcrq (And.intro hlo hb4q))
                have HZ26 := hid (show W4.heap.size ≤ (wq.alloc (.cells #[.int .i64 f.no, .slice a10 L c10, .slice none 0 0] 141)).heap.size by have := hb4q.size; simp; omega)
                clear hcrq hq9w hlo hb4q
                go_upto_region 26 with fail
                go_wp2_with (
                  at_builtin
                  refine wpList_append_rf _ rfl (.tmp 126) (.tmp 131) 54 141 _ 3 56 rfl Tryz.underlying54 Tryz.info141 rfl (by omega) W4.heap.size (.slice al k cl) k _ rfl (HT.out.2.1.alloc _) (.slice (some ⟨wq.heap.size, 0, none⟩) 1 1) 1 [.int .i64 f.no, .slice a10 L c10, .slice none 0 0] rfl (rf_new wq 141 #[.int .i64 f.no, .slice a10 L c10, .slice none 0 0] 3 rfl (ones3 _ _ _ rfl rfl rfl)) (by omega) (by unfold maxLen; omega) HZ26.out ?_
                  intro a26 c26 w26 hown hgr hob
                  have hkx : Kept (fun q => (Value.slice al k cl).ownBlock = some q) wq w26 := ((Kept.refl _ wq).alloc _).grown hgr.out (fun _ _ e => e)
                  have hb26 : Below W4.heap.size W4 w26 := HT.out.2.2.trans (hkx.below HT.out.2.2.size (fun q hq e => by have := (HT.out.1.l.lt q e).1; omega))
                  have hpu := (HT.out.1.swap.push f.no (loseAll fs0 ([] : List Int) xs) HNO.out.2 (v1 := .slice a10 L c10) (by rw [loseAll_len, ← HXS.out.2.2.1, ← HE.out]; exact owns_mono HQ.out.1 HQ9.out.2.2.1.size) (v' := .slice a26 (k + 1) c26) (by rw [HWL.out.2]; exact hown.out) hgr.out hob.out).swap
                  have H26 := hid (show CrL W4.heap.size w26 (.slice a9 (k + 1) c9) (.slice a26 (k + 1) c26) (fun m => if m = f.no then .slice a8 L c8 else bw m) (fun m => if m = f.no then .slice a10 L c10 else bl m) (whL (pksOf pk) (k + 1) D.files) (loL (pksOf pk) (k + 1) D.files) ∧ Below W4.heap.size W4 w26 from ⟨by
                    rw [loL_succ _ _ _ _ HKF.out.1]
                    have e : crashF (pkAt (pksOf pk) k) f = ⟨f.no, loseAll fs0 ([] : List Int) xs, []⟩ := by unfold crashF; rw [HLN.out.2.2, HXS.out.1, HXS.out.2.1]
                    rw [e]
                    exact hpu, hb26⟩)
                  clear hown hgr hob hkx hb26 hpu)
                clear z0 s1
                go_roundw
                case rel => first | exact ⟨k + 1, a9, c9, a26, c26, by omega, rfl, rfl, by go_num, hid ⟨_, _, H26.out.1, H26.out.2⟩⟩ | ((repeat apply Exists.intro); exact ⟨⟨k + 1, a9, c9, a26, c26, by omega, rfl, rfl, by go_num, hid ⟨_, _, H26.out.1, H26.out.2⟩⟩, rfl⟩)
                case measure => simp [intOf]; omega
      · obtain rfl : D.files.length = k := by omega
        obtain ⟨bw, bl, hcr, hbk⟩ := HR.out
        have hfz := hrwr.free
        have hdw := set_block (i := 3) hrwr.disk (.slice aw D.files.length cw)
        have hk27 : Kept (fun q => q = r) wr (wr.setCell ⟨r, 3, none⟩ (.slice aw D.files.length cw)) := (Kept.refl (fun q => q = r) wr).setCell (p := ⟨r, 3, none⟩) (fun _ => rfl) _
        have hcr27 := hcr.kept hk27 (fun k e hB => by have := H4.out.2.2.2.2.2.2.2; omega)
        have hsl := hrwr.setL H4.out.2.2.1 rfl W4.heap.size H4.out.2.2.2.2.2.2.1 H4.out.2.2.2.2.2.2.2 (whL (pksOf pk) D.files.length D.files) (whL_cs _ _ _) (bv' := bw) hdw (by have h1 := hcr27.w; rw [whL_len _ _ _ (Nat.le_refl _)] at h1 ⊢; exact h1) hcr27.dw hk27
        have HCT := hid (show CrL W4.heap.size (wr.setCell ⟨r, 3, none⟩ (.slice aw D.files.length cw)) (.slice aw D.files.length cw) (.slice al D.files.length cl) bw bl (whL (pksOf pk) D.files.length D.files) (loL (pksOf pk) D.files.length D.files) ∧ (∃ R5, RdT (wr.setCell ⟨r, 3, none⟩ (.slice aw D.files.length cw)) r R5 { D with safeN := D.namesAt m, turns := [], files := whL (pksOf pk) D.files.length D.files } ∧ R5.sn = R1.sn ∧ SmR R1 R5) ∧ Kept (fun q => q = r) w (wr.setCell ⟨r, 3, none⟩ (.slice aw D.files.length cw)) ∧ W4.heap.size ≤ (wr.setCell ⟨r, 3, none⟩ (.slice aw D.files.length cw)).heap.size from by
          obtain ⟨R5, q1, q2, q3, -⟩ := hsl
          exact ⟨hcr27, ⟨R5, q1, q2, q3⟩, (H4.out.2.2.2.1.trans (Kept.ofBelow hbk) (fun _ _ e => e.elim)).trans hk27 (fun _ _ e => e), by have := hbk.size; have := hk27.size; omega⟩)
        clear hcr hbk hdw hk27 hcr27 hsl hrwr HR
        go_upto_region 28 with fail
        refine cutG (fun W => CrL W4.heap.size W (.slice aw D.files.length cw) (.slice al D.files.length cl) bw bl (whL (pksOf pk) D.files.length D.files) (loL (pksOf pk) D.files.length D.files) ∧ (∃ R5, RdT W r R5 { D with safeN := D.namesAt m, turns := [], files := whL (pksOf pk) D.files.length D.files } ∧ R5.sn = R1.sn ∧ SmR R1 R5) ∧ Kept (fun q => q = r) w W ∧ W4.heap.size ≤ W.heap.size) HCT.out ?_
        clear HCT c3 hfz
        rintro W27 ⟨hc27, ⟨R5, hr5, hs5, hm5⟩, hk27, hz27⟩
        have HFO := hid (forget_r hr5 rfl (by rw [hs5, H4.out.2.1]; omega) (by show (whL _ _ _).length ≤ 1000; rw [whL_len _ _ _ (Nat.le_refl _)]; exact hfl))
        have H27 := hid (And.intro hc27 (And.intro hs5 (And.intro hm5 (And.intro hk27 hz27))))
        clear hr5 hs5 hm5 hc27 hk27 hz27
        go_upto_region 29 with (
          go_at_call 107
          refine HFO.out.mono ?_
          rintro e w28 ⟨rfl, ⟨R6, g6, s6, sm6⟩, hk28⟩
          have H28 := hid (And.intro g6.rd (And.intro (s6.trans (H27.out.2.1.trans H4.out.2.1)) (And.intro (H27.out.2.2.1.trans sm6) (And.intro (H27.out.1.kept hk28 (fun k e hB => by have := H4.out.2.2.2.2.2.2.2; omega)) (And.intro (H27.out.2.2.2.1.trans hk28 (fun _ _ e => e)) (Nat.le_trans H27.out.2.2.2.2 hk28.size))))))
          clear g6 s6 sm6 hk28)
        obtain ⟨sn, hsn⟩ : ∃ sn, sn = rnm R.sn D.turns m := ⟨_, rfl⟩
        have HSQ := hid hsn
        have hok : NOK D.files sn := by
          have h1 := H.out.2.1.saf m
          have hp := HNN.out.p
          rw [← hsn] at hp
          exact ⟨(hp.map Prod.fst).nodup_iff.2 h1.k, (hp.map Prod.snd).nodup_iff.2 h1.n, fun x hx => h1.l x (hp.mem_iff.1 hx), fun x hx => h1.ok x (hp.mem_iff.1 hx)⟩
        have hwf : ∀ x ∈ sn, ∃ f, ff x.2 (liveF sn (whL (pksOf pk) D.files.length D.files)) = some f ∧ f.safe = wholeN (pksOf pk) D x.2 ∧ f.cs = [] := fun x hx => whL_wh H.out.2.1 (pksOf pk) hok (List.mem_map_of_mem hx)
        have hr28 : RdT w28 r R6 { D with safeN := D.namesAt m, turns := [], files := liveF sn (whL (pksOf pk) D.files.length D.files) } := by
          have h1 := H28.out.1
          rw [H27.out.2.1, H4.out.2.1, ← hsn] at h1
          exact h1
        have hs6 : R6.sn = sn := by rw [hsn]; exact H28.out.2.1
        have hF : FOK { D with safeN := D.namesAt m, turns := [], files := liveF sn (whL (pksOf pk) D.files.length D.files) } := by
          refine ⟨?_, ?_, fun f hf => ?_⟩
          · have h1 : (liveF sn (whL (pksOf pk) D.files.length D.files)).length ≤ (whL (pksOf pk) D.files.length D.files).length := List.length_filter_le _ _
            rw [whL_len _ _ _ (Nat.le_refl _)] at h1
            show (liveF sn (whL (pksOf pk) D.files.length D.files)).length ≤ 1000
            omega
          · refine List.Nodup.sublist ((List.filter_sublist).map _) ?_
            rw [whL_no, List.take_length]
            exact H.out.2.1.nd
          · obtain ⟨i, g, hi, rfl⟩ := whL_at _ _ f (mem_liveF.1 hf).1
            refine ⟨fun k c hkc => ?_, Nat.zero_le _, ?_⟩
            · have hkc' : ([] : List Chg)[k]? = some (.inr c) := hkc
              simp at hkc'
            · have h1 := H.out.2.1.peak (List.mem_of_getElem? hi)
              have h2 : (wholeF (pkAt (pksOf pk) i).1 g).1.length ≤ g.peak := take_le_peak _ _ _
              show peakC (wholeF (pkAt (pksOf pk) i).1 g).1 [] ≤ 4194304
              rw [peakC_nil]
              omega
        have hfi := files_r hr28 hF R6.sn R6.nv hr28.nms (by rw [hs6, hsn]; omega) true (fun x hx => by obtain ⟨f, h1, -⟩ := hwf x (hs6 ▸ hx); exact ⟨f, h1⟩)
        have hcon : (R6.sn.map fun x => (x.1, conN { D with safeN := D.namesAt m, turns := [], files := liveF sn (whL (pksOf pk) D.files.length D.files) } true x.2)) = sn.map fun x => (x.1, wholeN (pksOf pk) D x.2) := by
          rw [hs6]
          refine List.map_congr_left fun x hx => ?_
          obtain ⟨f, h1, h2, h3⟩ := hwf x hx
          unfold conN safN
          rw [if_pos rfl]
          show (x.1, ((ff x.2 (liveF sn (whL (pksOf pk) D.files.length D.files))).map fun f => f.safe).getD []) = _
          rw [h1, ← h2]
          rfl
        rw [hcon] at hfi
        obtain ⟨-, -, -, -, c4, -⟩ := hr28.cells
        obtain ⟨an6, cn6, hnv6, -, -⟩ := hr28.nms.shape
        rw [hnv6] at c4 hfi
        have HFI := hid hfi
        have HR28 := hid hr28
        have HS6 := hid hs6
        clear hfi hr28 hF hcon hnv6 hwf hs6 hsn
        go_upto_region 30 with (
          go_at_call 102
          refine HFI.out.mono ?_
          rintro e w29 ⟨v29, vs, rfl, hfo, hb29⟩
          obtain ⟨a29, c29, rfl⟩ := own_shape hfo.r
          have H29 := hid (And.intro hfo hb29)
          clear hfo hb29)
        have hr29 := HR28.out.below H29.out.2
        have hc29 := H28.out.2.2.2.1.below H29.out.2
        have hfz := hr29.free
        obtain ⟨-, -, -, c3, -⟩ := hr29.cells
        obtain ⟨al6, cl6, hlv6⟩ := own_shape hr29.lis
        rw [hlv6] at c3
        have hk30 : Kept (fun q => q = r) w29 (w29.setCell ⟨r, 3, none⟩ (.slice al D.files.length cl)) := (Kept.refl (fun q => q = r) w29).setCell (p := ⟨r, 3, none⟩) (fun _ => rfl) _
        have hc30 := hc29.kept hk30 (fun k e hB => by have := H4.out.2.2.2.2.2.2.2; omega)
        have hsm := H28.out.2.2.1
        have hd6 : ∀ k, Hd3 R6 k → Hd3 R1 k := fun k e => by
          unfold Hd3 at e ⊢
          rw [hsm.1, hsm.2.2.1, hsm.2.2.2] at e
          exact e
        have hsl := hr29.setL (hsm.2.1.trans H4.out.2.2.1) rfl W4.heap.size (fun k e => H4.out.2.2.2.2.2.2.1 k (hd6 k e)) H4.out.2.2.2.2.2.2.2 (loL (pksOf pk) D.files.length D.files) (loL_cs _ _ _) (bv' := bl) (set_block (i := 3) hr29.disk (.slice al D.files.length cl)) (by have h1 := hc30.l; rw [loL_len _ _ _ (Nat.le_refl _)] at h1 ⊢; exact h1) hc30.dl hk30
        have HCT := hid (show (∃ R7, RdT (w29.setCell ⟨r, 3, none⟩ (.slice al D.files.length cl)) r R7 { D with safeN := D.namesAt m, turns := [], files := loL (pksOf pk) D.files.length D.files } ∧ R7.sn = sn ∧ ∀ k, Rft r R7 k → k = r ∨ Hd3 R1 k ∨ W4.heap.size ≤ k) ∧ Kept (fun q => q = r) w29 (w29.setCell ⟨r, 3, none⟩ (.slice al D.files.length cl)) from by
          obtain ⟨R7, q1, q2, q3, q4⟩ := hsl
          refine ⟨⟨R7, q1, q2.trans HS6.out, fun k e => ?_⟩, hk30⟩
          rcases q4 k e with e | e | e
          · exact .inl e
          · exact .inr (.inl (hd6 k e))
          · exact .inr (.inr e))
        clear hr29 hc29 hk30 hc30 hsm hd6 hsl hlv6 c4 hok
        go_upto_region 31 with fail
        refine cutG (fun W => (∃ R7, RdT W r R7 { D with safeN := D.namesAt m, turns := [], files := loL (pksOf pk) D.files.length D.files } ∧ R7.sn = sn ∧ ∀ k, Rft r R7 k → k = r ∨ Hd3 R1 k ∨ W4.heap.size ≤ k) ∧ Kept (fun q => q = r) w29 W) HCT.out ?_
        clear HCT c3 hfz
        rintro W30 ⟨⟨R7, hr7, hs7, hf7⟩, hk30⟩
        have HFO2 := hid (forget_r hr7 rfl (by rw [hs7, HSQ.out]; omega) (by show (loL _ _ _).length ≤ 1000; rw [loL_len _ _ _ (Nat.le_refl _)]; exact hfl))
        have H30 := hid (And.intro hs7 (And.intro hf7 hk30))
        clear hr7 hs7 hf7 hk30 HFO
        go_upto_region 32 with (
          go_at_call 107
          refine HFO2.out.mono ?_
          rintro e w31 ⟨rfl, ⟨R8, g8, s8, -⟩, hk31⟩
          obtain ⟨-, -, -, -, -, -, d6, d7, d8, d9, d10⟩ := g8.rd.cells
          obtain ⟨as8, cs8, hsv8, -, -⟩ := g8.rd.fs.shape
          obtain ⟨ar8, cr8, hrv8, -, -⟩ := g8.rd.fr.shape
          rw [hsv8] at d6
          rw [hrv8] at d7
          have hfz := g8.rd.free
          have H31 := hid (And.intro g8 hk31)
          clear g8 s8 hk31 hsv8 hrv8)
        have hp := H31.out.1.rd.setP (Below.refl _ w31) (sv := .slice none 0 0) (rv := .slice none 0 0) (gs := []) (gr := []) (st := 0) (rd := 0) (off := false) (owns_nil _ _ _ _) (owns_nil _ _ _ _) ((((((Kept.refl (fun q => q = r) w31).setCell (p := ⟨r, 6, none⟩) (fun _ => rfl) (.slice none 0 0)).setCell (p := ⟨r, 7, none⟩) (fun _ => rfl) (.slice none 0 0)).setCell (p := ⟨r, 8, none⟩) (fun _ => rfl) (.int .i64 0)).setCell (p := ⟨r, 9, none⟩) (fun _ => rfl) (.int .i64 0)).setCell (p := ⟨r, 10, none⟩) (fun _ => rfl) (.bool false)) (set_block (i := 10) (set_block (i := 9) (set_block (i := 8) (set_block (i := 7) (set_block (i := 6) H31.out.1.rd.disk (.slice none 0 0)) (.slice none 0 0)) (.int .i64 0)) (.int .i64 0)) (.bool false))
        have HP := hid hp
        clear hp
        go_wp2
        go_ret
        obtain ⟨R9, g9, -, k9⟩ := HP.out
        have k29 := (H30.out.2.2.trans H31.out.2 (fun _ _ e => e)).trans k9 (fun _ _ e => e)
        have kw := ((H28.out.2.2.2.2.1.trans (Kept.ofBelow H29.out.2) (fun _ _ e => e.elim))).trans k29 (fun _ _ e => e)
        have hfo := (H29.out.1.kept k29 (by have h1 := hp_lt HR28.out.disk; exact h1)).fbl
        refine ⟨_, rfl, (by rw [← HSQ.out]; first | exact hfo | simpa using hfo), ⟨R9, ?_, kw.mono (fun _ _ e => .inl e), fun k e => ?_⟩, kw⟩
        · have h1 := g9.rd
          rw [H30.out.1, HSQ.out] at h1
          exact h1
        · rcases g9.ft k e with e | e
          · rcases H31.out.1.ft k e with e | e
            · rcases H30.out.2.1 k e with e | e | e
              · exact .inl (.inl e)
              · rcases H4.out.1.ft k (.inr (.inl (Hd3.ro H4.out.1.rd e))) with e | e
                · exact .inl e
                · exact .inr e
              · exact .inr (Nat.le_trans H4.out.2.2.2.1.size e)
            · exact .inr (Nat.le_trans (H28.out.2.2.2.2.1.trans (Kept.ofBelow H29.out.2) (fun _ _ e => e.elim)).size (Nat.le_trans H30.out.2.2.size e))
          · exact .inr (Nat.le_trans (H28.out.2.2.2.2.1.trans (Kept.ofBelow H29.out.2) (fun _ _ e => e.elim)).size (Nat.le_trans (H30.out.2.2.trans H31.out.2 (fun _ _ e => e)).size e))

end

end Go.Proofs.YtlmompdfombgeaaGreat
