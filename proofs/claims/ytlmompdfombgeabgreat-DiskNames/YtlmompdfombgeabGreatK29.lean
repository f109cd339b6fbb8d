import Derived.Test.YtlmompdfombgeabGreatK28
namespace Go.Proofs.YtlmompdfombgeabGreat
open Go.RowKit Go.MapKept

def trn (x : Int × Int × Int) : List Value := [.int .i64 x.1, .int .i64 x.2.1, .int .i64 x.2.2]

theorem mod_nat (v : Int) (n : Nat) (hn : 0 < n) : ∃ a : Nat, a < n ∧ v % (n : Int) = a := by
  have h1 := Int.emod_nonneg v (show (n : Int) ≠ 0 by omega)
  have h2 := Int.emod_lt_of_pos v (show (0 : Int) < n by omega)
  exact ⟨(v % n).toNat, by omega, by omega⟩

theorem Tryz.info49z : (Tryz.prog.info? 49).map (fun i => (i.zero, i.size, i.bytes)) = some (some (.agg #[.int .u8 0, .int .u8 0, .int .u8 0, .int .u8 0, .int .u8 0, .int .u8 0]), 6, 6) := by kernel_rfl

theorem nmI_mono {D : Dq} {rows : List (List Int)} {n n' : Nat} (h : NmI D rows n) (hn : n ≤ n') : NmI D rows n' := ⟨h.off, h.fs, h.fr, h.room, h.lim, h.rl, Nat.le_trans h.cnt hn, h.fil, h.at_, h.only⟩

theorem rf_row (W : World) (z0 z1 z2 z3 z4 z5 : Int) : Rf (W.alloc (.cells #[.int .u8 z0, .int .u8 z1, .int .u8 z2, .int .u8 z3, .int .u8 z4, .int .u8 z5] 49)) 6 (.slice (some ⟨W.heap.size, 0, none⟩) 1 1) 1 (B8 [z0, z1, z2, z3, z4, z5]) := by
  refine ⟨rfl, fun u hu => ?_, .inr ⟨⟨W.heap.size, 0, none⟩, 1, rfl, Nat.le_refl _, by decide, fun j u hu => ?_⟩⟩
  · obtain ⟨_, _, rfl⟩ := List.mem_map.1 hu
    rfl
  · rw [add_lit, Nat.zero_add, cell_of_row _ _ _ _ _ _ (hp_new W _)]
    simpa using hu

theorem tt_size (a : Nat) : (tt a).size ≤ maxLen := show (1 : Nat) ≤ maxLen by decide

theorem row_shape {w : World} {B : Nat} {e : TypeId} {m : Nat} {v : Value} {n : Nat} {xs : List Value} (h : w.ownsRow B e m v n xs) : ∃ ao c, v = .slice ao n c := by
  rcases h.2 with ⟨e1, e2⟩ | ⟨g, cap, cur, e1, _⟩
  · exact ⟨none, 0, by rw [e2]; exact e1⟩
  · exact ⟨_, _, e1⟩

/-- While the six names are looked at. -/
structure NmL (w W : World) (d : Nat) (t : Wt) (F : Dq) (v : Value) (rows : List (List Int)) (nb : Nat) (r : List Int) (B : Nat) (lv : Value) : Prop where
  s : NmT w W d t F v rows nb r
  ls : W.ownsRow B 9 1 lv (upto r 6).length (((upto r 6).map tt).map Value.string)
  lt : d < B ∧ nb < B
  ro : RowOk F F.names r
  off : F.off = false
  fr : F.fr = []

theorem NmL.below {w W W' : World} {d : Nat} {t : Wt} {F : Dq} {v : Value} {rows : List (List Int)} {nb : Nat} {r : List Int} {B : Nat} {lv : Value} (h : NmL w W d t F v rows nb r B lv) (hb : Below W.heap.size W W') : NmL w W' d t F v rows nb r B lv :=
  ⟨h.s.below hb, ownsRow_kept h.ls (Kept.ofBelow hb) (fun _ _ h => h), h.lt, h.ro, h.off, h.fr⟩

theorem NmL.read {w W W' : World} {d : Nat} {t : Wt} {F : Dq} {v : Value} {rows : List (List Int)} {nb : Nat} {r : List Int} {B : Nat} {lv : Value} (h : NmL w W d t F v rows nb r B lv) (hd : DkT W' d t { F with rd := F.rd + 1, off := false }) (hk : Kept (fun k => k = d) W W') : NmL w W' d t { F with rd := F.rd + 1, off := false } v rows nb r B lv := by
  have g : Goes d W t F W' t { F with rd := F.rd + 1, off := false } := ⟨hd, hk.mono (fun k _ e => .inl e), fun k e => .inl e⟩
  exact ⟨h.s.goes g, ownsRow_kept h.ls hk (fun k e e2 => by have := (h.ls.lt k e).1; have := h.lt.1; omega), h.lt, h.ro, rfl, h.fr⟩

theorem nmS_start {w w1 w2 : World} {d : Nat} {t : Wt} {D : Dq} (h0 : Below w.heap.size w w1) (h : DkT w2 d t D) (hl : ∀ q, Dft d t D q → w1.heap.size ≤ q) (hb : Below w1.heap.size w1 w2) :
    NmS w (w2.alloc (.cells #[.int .u8 0, .int .u8 0, .int .u8 0, .int .u8 0, .int .u8 0, .int .u8 0] 49)) d t D (.slice (some ⟨w2.heap.size, 0, none⟩) 1 1) [[0, 0, 0, 0, 0, 0]] := by
  have hb2 := bel_on h0 hb
  refine ⟨h.below (bel_al _ _), fun q e => Nat.le_trans h0.size (hl q e), bel_on hb2 (bel_al _ _), ⟨rfl, .inr ⟨w2.heap.size, 1, _, rfl, hb2.size, hp_new w2 _, Nat.le_refl _, by decide, rfl, rfl⟩⟩, fun k e e2 => ?_⟩
  have : w2.heap.size = k := Option.some.inj e
  have := h.lt k e2
  omega

set_option maxRecDepth 100000 in
set_option maxHeartbeats 12800000 in
theorem names_law (v : Value) (ts : List (Int × Int × Int)) (dn : Int) (fv : Value) (pk : List Pk) (w : World) (h : Rf w 3 v ts.length (ts.flatMap trn)) (hi : ∀ x ∈ ts, I64 x.1 ∧ I64 x.2.1 ∧ I64 x.2.2) (hdn : I64 dn) (hpk : Pks w fv pk) (ht : (ts.length : Int) ≤ 100) (hp : (pk.length : Int) ≤ 300) :
    Calls Tryz.prog 4 #[v, .int .i64 dn, fv] w fun x w' => x = .returned (.bool true) ∧ Below w.heap.size w w' := by
  obtain ⟨ao, cap, rfl, hc, hcm⟩ := h.shape
  obtain ⟨ap, cp, rfl, hc2, hcm2⟩ := hpk.1.shape
  have HS := hid h
  have HI := hid hi
  have HD := hid hdn
  have HP := hid hpk
  clear h hi hdn hpk
  go_enter Tryz.func4, Tryz.ntmps4
  go_upto_region 3 with (first
    | (go_at_call 7
       refine (much_any (.slice (some ⟨w.heap.size, 0, none⟩) 1 1) [pkSp 0 (.slice ap pk.length cp) pk] _ (sps_one (pkSp_ok (by unfold I64; omega) HP.out))).mono ?_
       rintro e w1 ⟨hb1, r2, rfl, hm2⟩
       have H1 := hid (And.intro (bel_on (bel_al _ _) hb1) hm2)
       clear hb1 hm2)
    | (go_at_call 8
       refine (known_any _).mono ?_
       rintro e w3 ⟨rfl, hb3⟩
       have HK := hid hb3
       clear hb3))
  · go_ret
    exact ⟨rfl, bel_on H1.out.1 HK.out⟩
  have hr2 : r2 = false := (show ((ts.length : Int) ≤ 100 ∧ (pk.length : Int) ≤ 300) ∧ r2 = false by assumption).2
  have HPS := hid (show pk.length ≤ 300 ∧ ∀ p ∈ pk, p.lost.length ≤ 300 from ((H1.out.2 hr2).2 _ (List.mem_singleton.2 rfl)).2.2.2.2.2)
  have HW1 := hid H1.out.1
  clear H1
  subst hr2
  go_upto_region 7 with (
    go_at_call 9
    refine (fresh_ok 1000 512 _ (by omega) (by omega) (by omega) (by omega)).mono ?_
    rintro e w2 ⟨rfl, ⟨t0, hd2, hl2⟩, hb2⟩
    have H2 := hid (nmS_start HW1.out hd2 hl2 hb2)
    clear hd2 hl2 hb2)
  generalize w1.heap.size = d at H2 ⊢
  clear HW1
  go_wp2
  go_loopw [8, 9] (fun rv ix wr => ∃ (i m : Nat) (t : Wt) (D : Dq) (rows : List (List Int)) (ro : Option Addr) (rc : Nat), i ≤ ts.length ∧ ix = .int .i64 i ∧ rows.length = m + 1 ∧ rv = .slice ro (m + 1) rc ∧ Hid (NmS w wr d t D (.slice ro (m + 1) rc) rows ∧ NmI D rows i ∧ WD (6 * i) D)) (fun _ ix _ => ts.length - (intOf ix).toNat)
  case atStart => exact ⟨0, 0, t0, newD 1000 512, [[0, 0, 0, 0, 0, 0]], _, _, Nat.zero_le _, rfl, rfl, rfl, hid ⟨H2.out, nmI_start, newD_WD 1000 512 (by omega) (by omega) (by omega) (by omega)⟩⟩
  clear H2
  obtain ⟨i, m, t, D, rows, ro, rc, hit, rfl, hrl, rfl, HR⟩ := hrel
  by_cases hlt : i < ts.length
  · have i1 : (i : Int) < (ts.length : Int) := by omega
    have i0 : (0 : Int) ≤ (i : Int) := by omega
    have m0 : (0 : Int) ≤ (m : Int) := by omega
    have m1 : (m : Int) < ((m + 1 : Nat) : Int) := by omega
    obtain ⟨b, ofs, cap', e, -, -, hcell⟩ := Rf.elem (f := trn) (fun _ => rfl) (by omega) HS.out i hlt
    injection e with e1 e2 e3
    subst e1 e3
    clear e2
    have hiv := HI.out ts[i] (List.getElem_mem hlt)
    obtain ⟨x, hx⟩ : ∃ x, x = ts[i] := ⟨_, rfl⟩
    rw [← hx] at hiv hcell
    obtain ⟨kd, xA, xB⟩ := x
    obtain ⟨hk64, hA64, hB64⟩ := hiv
    dsimp only at hk64 hA64 hB64
    have hq := fun c u hu => ((HR.out.1.hb.cell (World.block_lt_of_cell? _ _ (hcell c u hu))).trans (hcell c u hu))
    have c0 := (show wr.cell? ⟨b, ofs + i * 3, none⟩ = some (.int .i64 kd) from hq 0 _ rfl)
    have c1 := (show wr.cell? ⟨b, ofs + i * 3 + 1, none⟩ = some (.int .i64 xA) from hq 1 _ rfl)
    have c2 := (show wr.cell? ⟨b, ofs + i * 3 + 2, none⟩ = some (.int .i64 xB) from hq 2 _ rfl)
    clear hq hcell hx
    obtain ⟨a, ha, hae⟩ := mod_nat xA 6 (by omega)
    obtain ⟨a', ha', hbe⟩ := mod_nat xB 6 (by omega)
    obtain ⟨kk, hkk, hke⟩ := mod_nat kd 3 (by omega)
    have HA := hid (show xA % 6 = (a : Int) from hae)
    have HB := hid (show xB % 6 = (a' : Int) from hbe)
    have HKD := hid (show kd % 3 = (kk : Int) from hke)
    clear hae hbe hke
    have hml : m = D.turns.length := by have := HR.out.2.1.rl; omega
    have hmb : (m : Int) ≤ 1000 := by have := HR.out.2.2.tur; omega
    have hw64 : wrap64 (m : Int) = (m : Int) := by unfold wrap64; omega
    obtain ⟨r, hr⟩ : ∃ r, rows[m]? = some r := ⟨_, List.getElem?_eq_getElem (by omega)⟩
    have hr6 := (HR.out.2.1.at_ m r hr).1
    have h66 : ∀ y ∈ rows, y.length = 6 := fun y hy => by
      obtain ⟨j, hj⟩ := List.mem_iff_getElem?.1 hy
      exact (HR.out.2.1.at_ j y hj).1
    obtain ⟨g, rc', e, hrow⟩ := HR.out.1.rowAt hr h66
    injection e with e1 e2 e3
    subst e1
    clear e2 e3
    match r, hr6 with
    | [x0, x1, x2, x3, x4, x5], _ =>
    have y0 := (show wr.cell? ⟨g, m * 6, none⟩ = some (.int .u8 x0) from hrow 0 _ rfl)
    have y1 := (show wr.cell? ⟨g, m * 6 + 1, none⟩ = some (.int .u8 x1) from hrow 1 _ rfl)
    have y2 := (show wr.cell? ⟨g, m * 6 + 2, none⟩ = some (.int .u8 x2) from hrow 2 _ rfl)
    have y3 := (show wr.cell? ⟨g, m * 6 + 3, none⟩ = some (.int .u8 x3) from hrow 3 _ rfl)
    have y4 := (show wr.cell? ⟨g, m * 6 + 4, none⟩ = some (.int .u8 x4) from hrow 4 _ rfl)
    have y5 := (show wr.cell? ⟨g, m * 6 + 5, none⟩ = some (.int .u8 x5) from hrow 5 _ rfl)
    clear hrow
    have HN := hid (And.intro hr (And.intro h66 (And.intro HR.out.2.1 HR.out.2.2)))
    have HS1 := hid HR.out.1
    have HML := hid hml
    clear HR hr h66 hml
    go_upto_region 13 with (
      go_at_call 19
      refine (lround_any _ _ _ (by assumption) (by omega) (by omega)).mono ?_
      rintro e w5 ⟨rfl, e5⟩
      rw [e5]
      first
        | rw [HA.out]
        | rw [HB.out]
      clear e5)
    have hbx := bel_al wr (.cells #[.int .i64 kd, .int .i64 xA, .int .i64 xB] 52)
    refine cutG (fun W => NmS w W d t D (.slice (some ⟨g, 0, none⟩) (m + 1) rc) rows ∧ W.heap[wr.heap.size]? = some (.cells #[.int .i64 kd, .int .i64 xA, .int .i64 xB] 52 (0, 0)) ∧ (W.cell? ⟨g, m * 6, none⟩ = some (.int .u8 x0) ∧ W.cell? ⟨g, m * 6 + 1, none⟩ = some (.int .u8 x1) ∧ W.cell? ⟨g, m * 6 + 2, none⟩ = some (.int .u8 x2) ∧ W.cell? ⟨g, m * 6 + 3, none⟩ = some (.int .u8 x3) ∧ W.cell? ⟨g, m * 6 + 4, none⟩ = some (.int .u8 x4) ∧ W.cell? ⟨g, m * 6 + 5, none⟩ = some (.int .u8 x5)))
      ⟨HS1.out.below hbx, hp_new wr _, (hbx.cell (World.block_lt_of_cell? _ _ y0)).trans y0, (hbx.cell (World.block_lt_of_cell? _ _ y1)).trans y1, (hbx.cell (World.block_lt_of_cell? _ _ y2)).trans y2, (hbx.cell (World.block_lt_of_cell? _ _ y3)).trans y3, (hbx.cell (World.block_lt_of_cell? _ _ y4)).trans y4, (hbx.cell (World.block_lt_of_cell? _ _ y5)).trans y5⟩ ?_
    intro W5 HH
    clear y0 y1 y2 y3 y4 y5 c0 c1 c2 hbx HS1 HA HB hA64 hB64
    obtain ⟨hs5, hxb, y0, y1, y2, y3, y4, y5⟩ := HH
    have k0 : ∀ o, (W5.alloc o).cell? ⟨wr.heap.size, 0, none⟩ = some (.int .i64 kd) := fun o => by
      have h1 : W5.cell? ⟨wr.heap.size, 0, none⟩ = some (.int .i64 kd) := by rw [cell_of_row W5 _ _ _ _ _ hxb]; rfl
      exact ((bel_al W5 o).cell (World.block_lt_of_cell? _ _ h1)).trans h1
    have HX := hid (nmT_start hs5 [x0, x1, x2, x3, x4, x5])
    have HK0 := hid (k0 (.cells #[.int .u8 x0, .int .u8 x1, .int .u8 x2, .int .u8 x3, .int .u8 x4, .int .u8 x5] 49))
    have HL := hid (And.intro hrl (And.intro hit (And.intro hlt (And.intro ha (And.intro ha' (And.intro hkk (And.intro ht hp)))))))
    clear hs5 hxb k0 hrl hit hlt ha ha' hkk ht hp hc hcm hc2 hcm2 i0 i1
    generalize wr.heap.size = xb at HK0 ⊢
    go_upto_region 14 with fail
    have k1 := HK0.out
    clear HK0 y0 y1 y2 y3 y4 y5
    go_upto_region 15 with (
      go_at_call 19
      refine (lround_any _ _ _ (by assumption) (by omega) (by omega)).mono ?_
      rintro e w5 ⟨rfl, e5⟩
      rw [e5, HKD.out]
      clear e5)
    refine cutG (fun W => NmT w W d t D (.slice (some ⟨g, 0, none⟩) (m + 1) rc) rows W5.heap.size [x0, x1, x2, x3, x4, x5]) HX.out ?_
    intro W6 HH
    have H6 := hid HH
    clear HH HX k1 HKD hk64
    generalize W5.heap.size = nb at H6 ⊢
    obtain ⟨hrl, hit, hlt, ha, ha', hkk, ht, hp⟩ := HL.out
    clear HL
    obtain ⟨now, hnow⟩ : ∃ now, now = [x0, x1, x2, x3, x4, x5] := ⟨_, rfl⟩
    rw [← hnow] at H6 HN
    have hn6 : now.length = 6 := by rw [hnow]; rfl
    clear hnow
    obtain ⟨xa, hxa⟩ : ∃ xa, now[a]? = some xa := ⟨_, List.getElem?_eq_getElem (by omega)⟩
    have HXA := hid hxa
    have hrw : rows[D.turns.length]? = some now := HML.out ▸ HN.out.1
    have HRW := hid hrw
    clear hxa hrw
    have hib : (i : Int) ≤ 99 := by omega
    have j0 : (0 : Int) ≤ (a : Int) := by omega
    have j1 : (a : Int) < 6 := by omega
    have k0 : (0 : Int) ≤ (a' : Int) := by omega
    have k1 : (a' : Int) < 6 := by omega
    obtain rfl | rfl | rfl : kk = 0 ∨ kk = 1 ∨ kk = 2 := by omega
    · by_cases hz : xa = 0
      · subst hz
        have hcy := create_yes HN.out.2.2.1 HN.out.2.2.2 HRW.out ha HXA.out (by omega) ((i : Int) + 1) (by omega)
        have hW1 := HN.out.2.2.2.createP (tt a)
        have hW2 := hW1.appP (tt a) [(i : Int) + 1]
        have hW3 := hW2.syncP (tt a)
        have hc1 := fun W (h : NmT w W d t D (.slice (some ⟨g, 0, none⟩) (m + 1) rc) rows nb now) => create_dk h.s.h HN.out.2.2.2 (by omega) (tt a) (tt_size a)
        rw [hcy.1] at hc1
        have hc2 := fun W t' (h : DkT W d t' (createP D (tt a)).2) ao cp hsl hsd => app_dk h hW1 (by omega) (tt a) (tt_size a) ao cp [(i : Int) + 1] hsl hsd (by simp)
        rw [hcy.2.1] at hc2
        have hc3 := fun W t' (h : DkT W d t' (appP (createP D (tt a)).2 (tt a) [(i : Int) + 1]).2) => sync_dk h hW2 (by omega) (tt a) (tt_size a)
        rw [hcy.2.2.1] at hc3
        obtain ⟨D1, hD1⟩ : ∃ D1, D1 = (createP D (tt a)).2 := ⟨_, rfl⟩
        rw [← hD1] at hcy hW2 hW3 hc1 hc2 hc3
        obtain ⟨D2, hD2⟩ : ∃ D2, D2 = (appP D1 (tt a) [(i : Int) + 1]).2 := ⟨_, rfl⟩
        rw [← hD2] at hcy hW3 hc2 hc3
        obtain ⟨D3, hD3⟩ : ∃ D3, D3 = (syncP D2 (tt a)).2 := ⟨_, rfl⟩
        rw [← hD3] at hcy hW3 hc3
        have HC1 := hid hc1
        have HC2 := hid hc2
        have HC3 := hid hc3
        have HCY := hid (And.intro hcy.2.2.2 (show WD (6 * (i + 1)) D3 by rw [Nat.mul_add]; exact hW3))
        have hu8 : IntKind.u8.wrap ((i : Int) + 1) = (i : Int) + 1 := by rw [IntKind.wrap_u8]; omega
        clear hcy hW1 hW2 hW3 hc1 hc2 hc3 hD1 hD2 hD3
        go_upto_region 17 with (first
          | (go_at_call 21
             refine (title_any a ha _).mono ?_
             rintro e w7 ⟨rfl, hb7⟩
             have H7 := hid (H6.out.below hb7)
             clear hb7 H6)
          | (go_at_call 20
             refine (HC1.out _ H7.out).mono ?_
             rintro e w8 ⟨rfl, t8, hg8⟩
             have H8 := hid (H7.out.goes hg8)
             clear hg8 H7))
        have cz := H8.out.cell HXA.out
        go_upto_region 20 with fail
        have fz := H8.out.free a
        go_upto_region 21 with fail
        refine cutG (fun W => NmT w W d t8 D1 (.slice (some ⟨g, 0, none⟩) (m + 1) rc) rows nb (now.set a ((i : Int) + 1))) (H8.out.set a ((i : Int) + 1)) ?_
        intro W9 HH
        have H9 := hid HH
        clear HH H8 cz fz
        go_upto_region 36 with (first
          | (go_at_call 21
             refine (title_any a ha _).mono ?_
             rintro e w10 ⟨rfl, hb10⟩
             have H10 := hid (H9.out.below hb10)
             clear hb10 H9)
          | (go_at_call 22
             refine (HC2.out _ t8 (H10.out.s.h.below (bel_al _ _)) (some ⟨w10.heap.size, 0, none⟩) 1 (sl_of_owns ((show Own (w10.alloc (.cells #[.int .u8 ((i : Int) + 1)] 5)) w10.heap.size [(i : Int) + 1] from hp_new w10 _).owns (B := 0) (Nat.zero_le _) (by simp [maxLen]))) (fun _ q e => by
               have h1 : w10.heap.size = q := Option.some.inj e
               have h2 := H10.out.s.h.lt d (.inl rfl)
               omega)).mono ?_
             rintro e w11 ⟨rfl, t11, hg11⟩
             have H11 := hid ((H10.out.below (bel_al _ _)).goes hg11)
             clear hg11 H10 HC2)
          | (go_at_call 21
             refine (title_any a ha _).mono ?_
             rintro e w12 ⟨rfl, hb12⟩
             have H12 := hid (H11.out.below hb12)
             clear hb12 H11)
          | (go_at_call 17
             refine (HC3.out _ t11 H12.out.s.h).mono ?_
             rintro e w13 ⟨rfl, t13, hg13⟩
             have H13 := hid (H12.out.goes hg13)
             clear hg13 H12))
        obtain ⟨nw, hnw⟩ : ∃ nw, nw = now.set a ((i : Int) + 1) := ⟨_, rfl⟩
        have hw6 : nw.length = 6 := by rw [hnw]; simp [hn6]
        have HNI := hid HCY.out.1
        have HWX := hid HCY.out.2
        have HT := H13
        rw [← hnw] at HNI HT
        have HL := hid (And.intro hrl (And.intro hit (And.intro hlt (And.intro ht hp))))
        clear hnw hrl hit hlt ht hp ha ha' hn6 H13
        match nw, hw6 with
        | [z0, z1, z2, z3, z4, z5], _ =>
        have q0 := HT.out.cell (a := 0) (x := z0) rfl
        have q1 := HT.out.cell (a := 1) (x := z1) rfl
        have q2 := HT.out.cell (a := 2) (x := z2) rfl
        have q3 := HT.out.cell (a := 3) (x := z3) rfl
        have q4 := HT.out.cell (a := 4) (x := z4) rfl
        have q5 := HT.out.cell (a := 5) (x := z5) rfl
        have HOW := hid (HL.out.1 ▸ HT.out.s.ow)
        have HBS := hid HT.out.s.hb.size
        go_wp2_with (at_builtin; go_loud (
          refine wpList_append_rf _ rfl _ _ 50 49 (.agg #[.int .u8 0, .int .u8 0, .int .u8 0, .int .u8 0, .int .u8 0, .int .u8 0]) 6 6 rfl Tryz.underlying50 Tryz.info49z rfl (by decide) w.heap.size _ (m + 1) _ rfl (HOW.out.alloc _) _ 1 (B8 [z0, z1, z2, z3, z4, z5]) rfl (rf_row _ z0 z1 z2 z3 z4 z5) (by omega) (by unfold maxLen; omega) (by have := HBS.out; simp; omega) ?_
          intro ao3 c3 w36 hown hgrow hat
          have H36 := hid (HT.out.s.app (r := [z0, z1, z2, z3, z4, z5]) (bel_al _ _) (by rw [HL.out.1]; exact hown.out) hgrow.out hat.out)
          clear hown hgrow hat q0 q1 q2 q3 q4 q5 HOW))
        obtain ⟨hrl, hit, hlt, ht, hp⟩ := HL.out
        go_roundw
        case rel => exact ⟨i + 1, m + 1, t13, _, rows ++ [[z0, z1, z2, z3, z4, z5]], ao3, c3, by omega, by go_num, by rw [List.length_append, hrl]; rfl, rfl, hid ⟨H36.out, HNI.out, HWX.out⟩⟩
        case measure => simp [intOf]; omega
      · have hcn := fun W (h : NmT w W d t D (.slice (some ⟨g, 0, none⟩) (m + 1) rc) rows nb now) => create_dk h.s.h HN.out.2.2.2 (by omega) (tt a) (tt_size a)
        rw [create_no HN.out.2.2.1 HRW.out ha HXA.out hz] at hcn
        dsimp only at hcn
        have HC1 := hid hcn
        have z1 : (xa == 0) = false := by simpa using hz
        have z2 : (xa != 0) = true := by simpa using hz
        clear hcn
        go_upto_region 17 with (first
          | (go_at_call 21
             refine (title_any a ha _).mono ?_
             rintro e w7 ⟨rfl, hb7⟩
             have H7 := hid (H6.out.below hb7)
             clear hb7 H6)
          | (go_at_call 20
             refine (HC1.out _ H7.out).mono ?_
             rintro e w8 ⟨rfl, t8, hg8⟩
             have H8 := hid (H7.out.goes hg8)
             clear hg8 H7))
        have cz := H8.out.cell HXA.out
        go_wp2
        go_roundw
        case rel => exact ⟨i + 1, m, t8, D, rows, some ⟨g, 0, none⟩, rc, by omega, by go_num, hrl, rfl, hid ⟨H8.out.s, nmI_mono HN.out.2.2.1 (by omega), HN.out.2.2.2.mono (by omega)⟩⟩
        case measure => simp [intOf]; omega
    · by_cases hz : xa = 0
      · subst hz
        have hcn := fun W (h : NmT w W d t D (.slice (some ⟨g, 0, none⟩) (m + 1) rc) rows nb now) => ren_dk h.s.h HN.out.2.2.2 (by omega) (tt a) (tt a') (tt_size a) (tt_size a')
        rw [ren_no HN.out.2.2.1 HRW.out ha ha' HXA.out] at hcn
        dsimp only at hcn
        have HC1 := hid hcn
        clear hcn
        go_upto_region 25 with (first
          | (go_at_call 21
             refine (title_any a ha _).mono ?_
             rintro e w7 ⟨rfl, hb7⟩
             have H7 := hid (H6.out.below hb7)
             clear hb7 H6)
          | (go_at_call 21
             refine (title_any a' ha' _).mono ?_
             rintro e w8 ⟨rfl, hb8⟩
             have H8 := hid (H7.out.below hb8)
             clear hb8 H7)
          | (go_at_call 23
             refine (HC1.out _ H8.out).mono ?_
             rintro e w9 ⟨rfl, t9, hg9⟩
             have H9 := hid (H8.out.goes hg9)
             clear hg9 H8))
        have cz := H9.out.cell HXA.out
        go_wp2
        go_roundw
        case rel => exact ⟨i + 1, m, t9, D, rows, some ⟨g, 0, none⟩, rc, by omega, by go_num, hrl, rfl, hid ⟨H9.out.s, nmI_mono HN.out.2.2.1 (by omega), HN.out.2.2.2.mono (by omega)⟩⟩
        case measure => simp [intOf]; omega
      · have hry := ren_yes HN.out.2.2.1 HRW.out ha ha' HXA.out hz
        have hW1 := HN.out.2.2.2.renP (tt a) (tt a')
        have hcn := fun W (h : NmT w W d t D (.slice (some ⟨g, 0, none⟩) (m + 1) rc) rows nb now) => ren_dk h.s.h HN.out.2.2.2 (by omega) (tt a) (tt a') (tt_size a) (tt_size a')
        rw [hry.1] at hcn
        obtain ⟨D1, hD1⟩ : ∃ D1, D1 = (renP D (tt a) (tt a')).2 := ⟨_, rfl⟩
        rw [← hD1] at hcn hry hW1
        have HC1 := hid hcn
        have HRY := hid hry.2
        have HW1 := hid (hW1.mono (show 6 * i + 2 ≤ 6 * (i + 1) by omega))
        have z1 : (xa == 0) = false := by simpa using hz
        have z2 : (xa != 0) = true := by simpa using hz
        clear hcn hry hW1 hD1
        go_upto_region 25 with (first
          | (go_at_call 21
             refine (title_any a ha _).mono ?_
             rintro e w7 ⟨rfl, hb7⟩
             have H7 := hid (H6.out.below hb7)
             clear hb7 H6)
          | (go_at_call 21
             refine (title_any a' ha' _).mono ?_
             rintro e w8 ⟨rfl, hb8⟩
             have H8 := hid (H7.out.below hb8)
             clear hb8 H7)
          | (go_at_call 23
             refine (HC1.out _ H8.out).mono ?_
             rintro e w9 ⟨rfl, t9, hg9⟩
             have H9 := hid (H8.out.goes hg9)
             clear hg9 H8))
        have cz := H9.out.cell HXA.out
        go_upto_region 27 with fail
        by_cases hac : a = a'
        · subst hac
          go_wp2
          go_roundw
          case rel => exact ⟨i + 1, m, t9, D1, rows, some ⟨g, 0, none⟩, rc, by omega, by go_num, hrl, rfl, hid ⟨H9.out.s, nmI_mono (HRY.out.1 rfl) (by omega), HW1.out⟩⟩
          case measure => simp [intOf]; omega
        · have e1 : ((a : Int) == (a' : Int)) = false := by simp; omega
          have e2 : ((a : Int) != (a' : Int)) = true := by simp; omega
          obtain ⟨xb, hxb⟩ : ∃ xb, now[a']? = some xb := ⟨_, List.getElem?_eq_getElem (by omega)⟩
          have cb := H9.out.cell hxb
          have fb := H9.out.free a'
          have HAC := hid hac
          clear hxb hac
          go_upto_region 29 with fail
          refine cutG (fun W => NmT w W d t9 D1 (.slice (some ⟨g, 0, none⟩) (m + 1) rc) rows nb (now.set a' xa)) (H9.out.set a' xa) ?_
          intro W10 HH
          have H10 := hid HH
          clear HH H9 cz cb fb
          have cz := H10.out.cell (a := a) (x := xa) (by rw [List.getElem?_set_ne (fun e => HAC.out e.symm)]; exact HXA.out)
          have fz := H10.out.free a
          go_upto_region 36 with fail
          refine cutG (fun W => NmT w W d t9 D1 (.slice (some ⟨g, 0, none⟩) (m + 1) rc) rows nb ((now.set a' xa).set a 0)) (H10.out.set a 0) ?_
          intro W11 HH
          have H11 := hid HH
          clear HH H10 cz fz
          obtain ⟨nw, hnw⟩ : ∃ nw, nw = (now.set a' xa).set a 0 := ⟨_, rfl⟩
          have hw6 : nw.length = 6 := by rw [hnw]; simp [hn6]
          have HNI := hid (nmI_mono (HRY.out.2 HAC.out) (Nat.le_succ i))
          have HWX := hid HW1.out
          have HT := H11
          rw [← hnw] at HNI HT
          have HL := hid (And.intro hrl (And.intro hit (And.intro hlt (And.intro ht hp))))
          clear hnw hrl hit hlt ht hp ha ha' hn6 H11
          match nw, hw6 with
          | [z0, z1, z2, z3, z4, z5], _ =>
          have q0 := HT.out.cell (a := 0) (x := z0) rfl
          have q1 := HT.out.cell (a := 1) (x := z1) rfl
          have q2 := HT.out.cell (a := 2) (x := z2) rfl
          have q3 := HT.out.cell (a := 3) (x := z3) rfl
          have q4 := HT.out.cell (a := 4) (x := z4) rfl
          have q5 := HT.out.cell (a := 5) (x := z5) rfl
          have HOW := hid (HL.out.1 ▸ HT.out.s.ow)
          have HBS := hid HT.out.s.hb.size
          go_wp2_with (at_builtin; go_loud (
            refine wpList_append_rf _ rfl _ _ 50 49 (.agg #[.int .u8 0, .int .u8 0, .int .u8 0, .int .u8 0, .int .u8 0, .int .u8 0]) 6 6 rfl Tryz.underlying50 Tryz.info49z rfl (by decide) w.heap.size _ (m + 1) _ rfl (HOW.out.alloc _) _ 1 (B8 [z0, z1, z2, z3, z4, z5]) rfl (rf_row _ z0 z1 z2 z3 z4 z5) (by omega) (by unfold maxLen; omega) (by have := HBS.out; simp; omega) ?_
            intro ao3 c3 w36 hown hgrow hat
            have H36 := hid (HT.out.s.app (r := [z0, z1, z2, z3, z4, z5]) (bel_al _ _) (by rw [HL.out.1]; exact hown.out) hgrow.out hat.out)
            clear hown hgrow hat q0 q1 q2 q3 q4 q5 HOW))
          obtain ⟨hrl, hit, hlt, ht, hp⟩ := HL.out
          go_roundw
          case rel => exact ⟨i + 1, m + 1, t9, _, rows ++ [[z0, z1, z2, z3, z4, z5]], ao3, c3, by omega, by go_num, by rw [List.length_append, hrl]; rfl, rfl, hid ⟨H36.out, HNI.out, HWX.out⟩⟩
          case measure => simp [intOf]; omega
    · by_cases hz : xa = 0
      · subst hz
        have hcn := fun W (h : NmT w W d t D (.slice (some ⟨g, 0, none⟩) (m + 1) rc) rows nb now) => rem_dk h.s.h HN.out.2.2.2 (by omega) (tt a) (tt_size a)
        rw [rem_no HN.out.2.2.1 HRW.out ha HXA.out] at hcn
        dsimp only at hcn
        have HC1 := hid hcn
        clear hcn
        go_upto_region 32 with (first
          | (go_at_call 21
             refine (title_any a ha _).mono ?_
             rintro e w7 ⟨rfl, hb7⟩
             have H7 := hid (H6.out.below hb7)
             clear hb7 H6)
          | (go_at_call 24
             refine (HC1.out _ H7.out).mono ?_
             rintro e w9 ⟨rfl, t9, hg9⟩
             have H9 := hid (H7.out.goes hg9)
             clear hg9 H7))
        have cz := H9.out.cell HXA.out
        go_wp2
        go_roundw
        case rel => exact ⟨i + 1, m, t9, D, rows, some ⟨g, 0, none⟩, rc, by omega, by go_num, hrl, rfl, hid ⟨H9.out.s, nmI_mono HN.out.2.2.1 (by omega), HN.out.2.2.2.mono (by omega)⟩⟩
        case measure => simp [intOf]; omega
      · have hry := rem_yes HN.out.2.2.1 HRW.out ha HXA.out hz
        have hW1 := HN.out.2.2.2.remP (tt a)
        have hcn := fun W (h : NmT w W d t D (.slice (some ⟨g, 0, none⟩) (m + 1) rc) rows nb now) => rem_dk h.s.h HN.out.2.2.2 (by omega) (tt a) (tt_size a)
        rw [hry.1] at hcn
        obtain ⟨D1, hD1⟩ : ∃ D1, D1 = (remP D (tt a)).2 := ⟨_, rfl⟩
        rw [← hD1] at hcn hry hW1
        have HC1 := hid hcn
        have HRY := hid hry.2
        have HW1 := hid (hW1.mono (show 6 * i + 2 ≤ 6 * (i + 1) by omega))
        have z1 : (xa == 0) = false := by simpa using hz
        have z2 : (xa != 0) = true := by simpa using hz
        clear hcn hry hW1 hD1
        go_upto_region 32 with (first
          | (go_at_call 21
             refine (title_any a ha _).mono ?_
             rintro e w7 ⟨rfl, hb7⟩
             have H7 := hid (H6.out.below hb7)
             clear hb7 H6)
          | (go_at_call 24
             refine (HC1.out _ H7.out).mono ?_
             rintro e w9 ⟨rfl, t9, hg9⟩
             have H9 := hid (H7.out.goes hg9)
             clear hg9 H7))
        have cz := H9.out.cell HXA.out
        have fz := H9.out.free a
        go_upto_region 36 with fail
        refine cutG (fun W => NmT w W d t9 D1 (.slice (some ⟨g, 0, none⟩) (m + 1) rc) rows nb (now.set a 0)) (H9.out.set a 0) ?_
        intro W11 HH
        have H11 := hid HH
        clear HH H9 cz fz
        obtain ⟨nw, hnw⟩ : ∃ nw, nw = now.set a 0 := ⟨_, rfl⟩
        have hw6 : nw.length = 6 := by rw [hnw]; simp [hn6]
        have HNI := hid (nmI_mono HRY.out (Nat.le_succ i))
        have HWX := hid HW1.out
        have HT := H11
        rw [← hnw] at HNI HT
        have HL := hid (And.intro hrl (And.intro hit (And.intro hlt (And.intro ht hp))))
        clear hnw hrl hit hlt ht hp ha ha' hn6 H11
        match nw, hw6 with
        | [z0, z1, z2, z3, z4, z5], _ =>
        have q0 := HT.out.cell (a := 0) (x := z0) rfl
        have q1 := HT.out.cell (a := 1) (x := z1) rfl
        have q2 := HT.out.cell (a := 2) (x := z2) rfl
        have q3 := HT.out.cell (a := 3) (x := z3) rfl
        have q4 := HT.out.cell (a := 4) (x := z4) rfl
        have q5 := HT.out.cell (a := 5) (x := z5) rfl
        have HOW := hid (HL.out.1 ▸ HT.out.s.ow)
        have HBS := hid HT.out.s.hb.size
        go_wp2_with (at_builtin; go_loud (
          refine wpList_append_rf _ rfl _ _ 50 49 (.agg #[.int .u8 0, .int .u8 0, .int .u8 0, .int .u8 0, .int .u8 0, .int .u8 0]) 6 6 rfl Tryz.underlying50 Tryz.info49z rfl (by decide) w.heap.size _ (m + 1) _ rfl (HOW.out.alloc _) _ 1 (B8 [z0, z1, z2, z3, z4, z5]) rfl (rf_row _ z0 z1 z2 z3 z4 z5) (by omega) (by unfold maxLen; omega) (by have := HBS.out; simp; omega) ?_
          intro ao3 c3 w36 hown hgrow hat
          have H36 := hid (HT.out.s.app (r := [z0, z1, z2, z3, z4, z5]) (bel_al _ _) (by rw [HL.out.1]; exact hown.out) hgrow.out hat.out)
          clear hown hgrow hat q0 q1 q2 q3 q4 q5 HOW))
        obtain ⟨hrl, hit, hlt, ht, hp⟩ := HL.out
        go_roundw
        case rel => exact ⟨i + 1, m + 1, t9, _, rows ++ [[z0, z1, z2, z3, z4, z5]], ao3, c3, by omega, by go_num, by rw [List.length_append, hrl]; rfl, rfl, hid ⟨H36.out, HNI.out, HWX.out⟩⟩
        case measure => simp [intOf]; omega
  · have hml : m = D.turns.length := by have := HR.out.2.1.rl; omega
    have hmb : (m : Int) ≤ 1000 := by have := HR.out.2.2.tur; omega
    have hw64 : wrap64 (m : Int) = (m : Int) := by unfold wrap64; omega
    obtain ⟨jj, hjj, hje⟩ := mod_nat dn (m + 1) (by omega)
    have hj2 : dn % ((m : Int) + 1) = (jj : Int) := by have := hje; push_cast at this; exact this
    have hfn : firstN dn D.turns.length = jj := by
      unfold firstN
      rw [← hml, hj2]
      simp
    obtain ⟨r, hr⟩ : ∃ r, rows[jj]? = some r := ⟨_, List.getElem?_eq_getElem (by omega)⟩
    have hcr := crash_row HR.out.2.1 HR.out.2.2 dn (pksOf pk) (by rw [hfn]; exact hr)
    have hWE := HR.out.2.2.crashP dn (pksOf pk)
    have h66 : ∀ y ∈ rows, y.length = 6 := fun y hy => by
      obtain ⟨j, hj⟩ := List.mem_iff_getElem?.1 hy
      exact (HR.out.2.1.at_ j y hj).1
    have hpd := pending_dk HR.out.1.h HR.out.2.2 (by omega)
    rw [← hml] at hpd
    have hcd := fun W (h : NmS w W d t D (.slice ro (m + 1) rc) rows) => crash_dk h.h HR.out.2.2 (by omega) dn HD.out (.slice ap pk.length cp) pk (HP.out.below h.hb) (by have := HPS.out.1; omega) (fun p hp => by have := HPS.out.2 p hp; omega) (fun q e hD => by have := h.lo q hD; have := pk_lt HP.out q e; omega)
    obtain ⟨E, hE⟩ : ∃ E, E = (crashP dn (pksOf pk) D).2 := ⟨_, rfl⟩
    rw [← hE] at hcr hWE hcd
    have HPD := hid hpd
    have HCD := hid hcd
    have HCR := hid (And.intro hcr (And.intro (hWE.mono (show 6 * i ≤ 600 by omega)) (And.intro hr h66)))
    have HJ := hid (And.intro hj2 hje)
    have HS1 := hid HR.out.1
    have HAR := hid (And.intro hjj hrl)
    have hge : (ts.length : Int) ≤ (i : Int) := by omega
    have hr6 := (HR.out.2.1.at_ jj r hr).1
    clear HR hpd hcd hcr hWE hE hfn hj2 hje hr h66 hml hlt hit hc hcm hc2 hcm2 ht hp hrl
    go_upto_region 38 with (
      go_at_call 25
      refine HPD.out.mono ?_
      rintro e w7 ⟨v7, rfl, -, hb7⟩
      have H7 := hid (HS1.out.below hb7)
      clear hb7 HS1)
    go_upto_region 39 with (
      go_at_call 12
      refine (HCD.out _ H7.out).mono ?_
      rintro e w8 ⟨v8, t8, rfl, -, hg8⟩
      have H8 := hid (H7.out.goes hg8)
      clear hg8 H7)
    obtain ⟨g, rc', e, hrow⟩ := H8.out.rowAt HCR.out.2.2.1 HCR.out.2.2.2
    injection e with e1 e2 e3
    subst e1
    clear e2 e3
    match r, hr6 with
    | [x0, x1, x2, x3, x4, x5], _ =>
    have y0 := (show w8.cell? ⟨g, jj * 6, none⟩ = some (.int .u8 x0) from hrow 0 _ rfl)
    have y1 := (show w8.cell? ⟨g, jj * 6 + 1, none⟩ = some (.int .u8 x1) from hrow 1 _ rfl)
    have y2 := (show w8.cell? ⟨g, jj * 6 + 2, none⟩ = some (.int .u8 x2) from hrow 2 _ rfl)
    have y3 := (show w8.cell? ⟨g, jj * 6 + 3, none⟩ = some (.int .u8 x3) from hrow 3 _ rfl)
    have y4 := (show w8.cell? ⟨g, jj * 6 + 4, none⟩ = some (.int .u8 x4) from hrow 4 _ rfl)
    have y5 := (show w8.cell? ⟨g, jj * 6 + 5, none⟩ = some (.int .u8 x5) from hrow 5 _ rfl)
    have j0 : (0 : Int) ≤ (jj : Int) := by omega
    have j1 : (jj : Int) < ((m + 1 : Nat) : Int) := by omega
    have HX := hid (nmT_start H8.out [x0, x1, x2, x3, x4, x5])
    clear hrow hjj H8
    go_upto_region 40 with (
      go_at_call 19
      refine (lround_any _ _ _ HD.out (by omega) (by omega)).mono ?_
      rintro e w9 ⟨rfl, e9⟩
      rw [e9]
      first
        | rw [HJ.out.1]
        | rw [HJ.out.2]
      clear e9)
    refine cutG (fun W => NmT w W d t8 E (.slice (some ⟨g, 0, none⟩) (m + 1) rc) rows w8.heap.size [x0, x1, x2, x3, x4, x5]) HX.out ?_
    intro W9 HH
    have H9 := hid HH
    clear HH HX y0 y1 y2 y3 y4 y5 j0 j1
    generalize w8.heap.size = nb at H9 ⊢
    obtain ⟨r, hrr⟩ : ∃ r, r = [x0, x1, x2, x3, x4, x5] := ⟨_, rfl⟩
    rw [← hrr] at H9 HCR
    have hn6 : r.length = 6 := by rw [hrr]; rfl
    clear hrr
    have hls := list_on H9.out.s.h HCR.out.2.1 HCR.out.1.2.2.1
    rw [skN_rows HCR.out.1.1 HCR.out.1.2.1 HCR.out.2.1.nam.k, show E.names.length = (upto r 6).length by rw [← skN_len, skN_rows HCR.out.1.1 HCR.out.1.2.1 HCR.out.2.1.nam.k, List.length_map]] at hls
    have HLS := hid hls
    clear hls
    go_upto_region 41 with (
      go_at_call 26
      refine HLS.out.mono ?_
      rintro e w10 ⟨v10, rfl, hl10, hb10⟩
      obtain ⟨lo10, lc10, rfl⟩ := row_shape hl10
      have H10 := hid (show NmL w w10 d t8 E (.slice (some ⟨g, 0, none⟩) (m + 1) rc) rows nb r W9.heap.size (.slice lo10 (upto r 6).length lc10) from ⟨H9.out.below hb10, hl10, ⟨H9.out.s.h.lt d (.inl rfl), hp_lt H9.out.bk⟩, HCR.out.1.1, HCR.out.1.2.2.1, HCR.out.1.2.2.2⟩)
      clear hl10 hb10 H9 HLS)
    obtain ⟨L, hL⟩ : ∃ L, L = (upto r 6).length := ⟨_, rfl⟩
    have hL6 : (L : Int) ≤ 6 := by
      have : (upto r 6).length ≤ (List.range 6).length := List.length_filter_le _ _
      rw [List.length_range] at this
      omega
    generalize W9.heap.size = B at H10
    rw [← hL] at H10 ⊢
    have HLL := hid hL
    clear hL
    go_wp2
    go_loopw [22, 23] (fun kx ix wq => ∃ (j : Nat) (t : Wt) (F : Dq), j ≤ 6 ∧ kx = .int .i64 (upto r j).length ∧ ix = .int .i64 j ∧ Hid (NmL w wq d t F (.slice (some ⟨g, 0, none⟩) (m + 1) rc) rows nb r B (.slice lo10 L lc10) ∧ WD (600 + j) F)) (fun _ ix _ => 6 - (intOf ix).toNat)
    case atStart => exact ⟨0, t8, E, by omega, rfl, rfl, hid ⟨H10.out, HCR.out.2.1⟩⟩
    clear H10 HCR
    obtain ⟨j, t, F, hj, rfl, rfl, HY⟩ := hrel
    obtain ⟨q, hq⟩ : ∃ q, q = (upto r j).length := ⟨_, rfl⟩
    rw [← hq]
    have HQ := hid hq
    clear hq
    by_cases hj6 : j < 6
    · have j0 : (0 : Int) ≤ (j : Int) := by omega
      have j1 : (j : Int) < 6 := by omega
      obtain ⟨b, hb⟩ : ∃ b, r[j]? = some b := ⟨_, List.getElem?_eq_getElem (by omega)⟩
      have cj := HY.out.1.s.cell hb
      have HBJ := hid hb
      clear hb
      by_cases hz : b = 0
      · subst hz
        go_wp2
        go_roundw
        case rel => exact ⟨j + 1, t, F, by omega, by rw [upto_succ, if_neg (by rw [HBJ.out]; simp), List.append_nil, ← HQ.out], by go_num, hid ⟨HY.out.1, HY.out.2.mono (by omega)⟩⟩
        case measure => simp [intOf]; omega
      · have hat := upto_at r j (by rw [HBJ.out]; simpa using hz) 6 hj6
        rw [← HQ.out] at hat
        have hqL : q < L := by rw [HLL.out]; exact (List.getElem?_eq_some_iff.1 hat).1
        have q0 : (0 : Int) ≤ (q : Int) := by omega
        have q1 : (q : Int) < (L : Int) := by omega
        obtain ⟨lg, lc', e, -, -⟩ := own_some6 HY.out.1.ls (by rw [← HLL.out]; omega)
        injection e with e1 e2 e3
        subst e1
        clear e2 e3
        have hlc : ∀ W, NmL w W d t F (.slice (some ⟨g, 0, none⟩) (m + 1) rc) rows nb r B (.slice (some ⟨lg, 0, none⟩) L lc10) → W.cell? ⟨lg, q, none⟩ = some (.string (tt j)) := fun W h => by
          have h1 := h.ls
          have := h1.cells (g := lg) rfl q (.string (tt j)) (by simp [hat])
          rw [add_lit, Nat.zero_add] at this
          exact this
        have hrd := fun W (h : NmL w W d t F (.slice (some ⟨g, 0, none⟩) (m + 1) rc) rows nb r B (.slice (some ⟨lg, 0, none⟩) L lc10)) => read_dk h.s.s.h HY.out.2 (by omega) (tt j) (tt_size j)
        rw [read_row HY.out.1.ro HY.out.1.off HY.out.1.fr hj6 HBJ.out hz] at hrd
        dsimp only at hrd
        have HRD := hid hrd
        have HLC := hid hlc
        have hwf := HY.out.2.readP (tt j)
        rw [read_row HY.out.1.ro HY.out.1.off HY.out.1.fr hj6 HBJ.out hz] at hwf
        have HWF := hid hwf
        have HAT := hid hat
        have HY1 := hid HY.out.1
        have z1 : (b == 0) = false := by simpa using hz
        have z2 : (b != 0) = true := by simpa using hz
        clear hrd hlc hat hwf
        go_upto_region 49 with (first
          | (go_at_call 21
             refine (title_any j hj6 _).mono ?_
             rintro e w11 ⟨rfl, hb11⟩
             have H11 := hid (HY1.out.below hb11)
             clear hb11 HY1)
          | (go_at_call 27
             refine (HRD.out _ H11.out).mono ?_
             rintro e w12 ⟨v12, rfl, hnb, hdk, hkp⟩
             obtain ⟨Y, rfl, hY⟩ : ∃ Y, v12 = .slice (some ⟨Y, 0, none⟩) 1 1 ∧ Own w12 Y [b] := by
               rcases hnb with ⟨_, h⟩ | ⟨Y, h1, h2, _⟩
               · cases h
               · exact ⟨Y, h1, h2⟩
             have H12 := hid (And.intro (H11.out.read hdk hkp) hY)
             clear hnb hdk hkp hY H11))
        have hb0d : Below w12.heap.size w12 w12.drew := ⟨rfl, rfl, rfl, Nat.le_refl _, fun _ _ => rfl⟩
        have HCC : Hid (∀ W, Below w12.heap.size w12 W → (W.cell? ⟨Y, 0, none⟩ = some (.int .u8 b) ∧ W.cell? ⟨nb, j, none⟩ = some (.int .u8 b) ∧ W.cell? ⟨lg, q, none⟩ = some (.string (tt j)))) := hid (fun W hb => by
          have h1 : w12.cell? ⟨Y, 0, none⟩ = some (.int .u8 b) := by rw [cell_of_row w12 _ _ _ _ _ H12.out.2]; rfl
          have h2 := H12.out.1.s.cell HBJ.out
          have h3 := H12.out.1.ls.cells (g := lg) rfl q (.string (tt j)) (by simp [HAT.out])
          rw [add_lit, Nat.zero_add] at h3
          exact ⟨(hb.cell (World.block_lt_of_cell? _ _ h1)).trans h1, (hb.cell (World.block_lt_of_cell? _ _ h2)).trans h2, (hb.cell (World.block_lt_of_cell? _ _ h3)).trans h3⟩)
        clear cj
        have d1 : decide ((L : Int) ≤ (q : Int)) = false := by simp; omega
        have d2 : ¬ ((L : Int) ≤ (q : Int)) := by omega
        go_region_held (fun wx => wx.cell? ⟨Y, 0, none⟩ = some (.int .u8 b) ∧ wx.cell? ⟨nb, j, none⟩ = some (.int .u8 b) ∧ wx.cell? ⟨lg, q, none⟩ = some (.string (tt j))) (exact HCC.out _ (by assumption)) (first
          | (go_at_call 21
             refine (title_any j hj6 _).mono ?_
             rintro e w13 ⟨rfl, hb13⟩
             have hb14 := bel_on hb0d hb13
             have H13 := hid (H12.out.1.below hb14)
             clear hb13))
        go_wp2
        go_roundw
        case rel => exact ⟨j + 1, t, _, by omega, by rw [upto_succ, if_pos (by rw [HBJ.out]; simpa using hz), List.length_append, ← HQ.out]; rfl, by go_num, hid ⟨H13.out, HWF.out⟩⟩
        case measure => simp [intOf]; omega
    · obtain rfl : j = 6 := by omega
      obtain rfl : q = L := by rw [HQ.out, HLL.out]
      go_wp2_with (
        go_at_call 8
        refine (known_any _).mono ?_
        rintro e w20 ⟨rfl, hb20⟩
        have HK := hid hb20
        clear hb20)
      go_ret
      exact ⟨rfl, bel_on HY.out.1.s.s.hb HK.out⟩

end Go.Proofs.YtlmompdfombgeabGreat
