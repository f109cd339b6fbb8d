import Derived.Test.YtamajeagmkjjbaaAgain
import Derived.Test.YtamajeagmkjjbaaMuch
import Derived.Test.YtamajeagmkjjbaaRef2
namespace Go.Proofs.Ytamajeagmkjjbaa
open Go.RowKit

theorem itsBelow {w w' : World} {v : Value} {its : List It} (h : Its w v its) (hb : Below w.heap.size w w') : Its w' v its := by
  obtain ⟨ao, cap, rfl, h1, h2, h3, h4⟩ := h
  refine ⟨ao, cap, rfl, h1, h2, h3, fun hne => ?_⟩
  obtain ⟨b, off, rfl, hj⟩ := h4 hne
  refine ⟨b, off, rfl, fun j x hx => ?_⟩
  obtain ⟨c0, c1, c2, c3, c4⟩ := hj j x hx
  exact ⟨(hb.cell (World.block_lt_of_cell? _ _ c0)).trans c0, (hb.cell (World.block_lt_of_cell? _ _ c1)).trans c1, (hb.cell (World.block_lt_of_cell? _ _ c2)).trans c2, (hb.cell (World.block_lt_of_cell? _ _ c3)).trans c3, (hb.cell (World.block_lt_of_cell? _ _ c4)).trans c4⟩

theorem wfixZ_more (s : List Int × Int) (v n : Int) : (wfixZ s v n).1.length ≤ s.1.length + 11 := by
  unfold wfixZ; split
  · split
    · simp
    · rw [List.length_append, fixedB_len]; omega
  · omega
theorem layZ_more (s : List Int × Int) (x : It) : (layZ s x).1.length ≤ s.1.length + 11 + x.s.size := by
  unfold layZ
  split
  · have := wfixZ_more s (x.u % 256) 1; omega
  · split
    · have := wfixZ_more s x.u x.n; omega
    · split
      · unfold wnumZ; split
        · split
          · dsimp only; omega
          · have := rowF_le 10 x.n; rw [List.length_append]; omega
        · omega
      · split
        · unfold wintZ; split
          · have := rowF_le 10 (foldZ x.i); rw [List.length_append]; omega
          · omega
        · split
          · unfold wtextZ; split
            · have := rowF_le 10 (strBs x.s).length; rw [List.length_append, List.length_append, strBs_len]; rw [strBs_len] at this; omega
            · omega
          · omega

theorem sumS_part (its : List It) (k : Nat) : sumS (its.take k) ≤ sumS its := by
  unfold sumS
  conv => rhs; rw [← List.take_append_drop k its]
  rw [List.map_append, List.sum_append]
  omega

theorem it_size_part (its : List It) (k : Nat) (h : k < its.length) : its[k].s.size ≤ sumS its := by
  have h1 := sumS_take its k h
  have h2 := sumS_part its (k + 1)
  omega

theorem size_mem (its : List It) (x : It) (h : x ∈ its) : x.s.size ≤ sumS its := by
  obtain ⟨k, hk, rfl⟩ := List.getElem_of_mem h
  exact it_size_part its k hk

theorem layN_len (its : List It) (k : Nat) (hk : k ≤ its.length) : (layN its k).1.length ≤ 11 * k + sumS (its.take k) := by
  induction k with
  | zero => simp [layN]
  | succ k ih =>
    rw [layN_succ its k (by omega), sumS_take its k (by omega)]
    have := layZ_more (layN its k) its[k]
    have := ih (by omega)
    omega

/-- A Writer at z (its data in g). -/
structure WZ (w0 w : World) (z : Nat) (g : Option Nat) (s : List Int × Int) : Prop where
  wr : Wr w0.heap.size w z g s.1 s.2
  bel : Below w0.heap.size w0 w
  ge : w0.heap.size ≤ z

theorem WZ.still {w0 w w' : World} {z : Nat} {g : Option Nat} {s : List Int × Int} (h : WZ w0 w z g s) (hb : Below w.heap.size w w') : WZ w0 w' z g s :=
  ⟨h.wr.kept (Kept.ofBelow hb) (fun h => h) (fun _ _ h => h), h.bel.trans (hb.mono h.bel.size), h.ge⟩

theorem WZ.lay {w0 w w' : World} {z : Nat} {g : Option Nat} {s s2 : List Int × Int} (h : WZ w0 w z g s) (hs : WrStep w0.heap.size z g w w' s2.1 s2.2) : ∃ g', WZ w0 w' z g' s2 := by
  obtain ⟨g', h1, _, hk⟩ := hs
  have hgl := h.wr.glt
  have hge := h.ge
  refine ⟨g', h1, h.bel.trans (hk.below h.bel.size ?_), h.ge⟩
  rintro k hk2 (e | e)
  · omega
  · have := hgl k e; omega

theorem tkL (p : Nat) (g : Option Nat) (bs : List Int) (a : Nat) (w : World) (x : It) (n : Int) (hn : x.long.n = n) (h : Rd w p g bs a 0) (hp : p < w.heap.size) (hx : x.long.ok) (u i : Int) (s : List Int) (a2 : Nat) (hz : itZ x.long bs a 0 = ((u, i, s), a2, 0)) :
    Calls Try.prog 19 #[.pointer (some ⟨p, 0, none⟩), .agg #[.int .i64 x.kind, .int .i64 n, .int .u64 x.u, .int .i64 x.i, .string x.s]] w fun y w' => y = .returned (.agg #[.int .u64 u, .int .i64 i, .string (mkStr s)]) ∧ RdStep p g w w' bs a2 0 := by
  have := tkB p g bs a 0 w x.long h hp hx u i s a2 0 hz
  have e : x.long.kind = x.kind ∧ x.long.u = x.u ∧ x.long.i = x.i ∧ x.long.s = x.s := by
    unfold It.long
    split <;> exact ⟨rfl, rfl, rfl, rfl⟩
  rw [e.1, e.2.1, e.2.2.1, e.2.2.2, hn] at this
  exact this

theorem cell_of_five {w : World} {p : Nat} {a b c d e : Value} {t : TypeId} (h : w.heap[p]? = some (.cells #[a, b, c, d, e] t (0, 0))) : w.cell? ⟨p, 0, none⟩ = some a ∧ w.cell? ⟨p, 1, none⟩ = some b ∧ w.cell? ⟨p, 2, none⟩ = some c ∧ w.cell? ⟨p, 3, none⟩ = some d ∧ w.cell? ⟨p, 4, none⟩ = some e := by
  refine ⟨?_, ?_, ?_, ?_, ?_⟩
  · rw [cell_of_row w p 0 _ t (0, 0) h]; rfl
  · rw [cell_of_row w p 1 _ t (0, 0) h]; rfl
  · rw [cell_of_row w p 2 _ t (0, 0) h]; rfl
  · rw [cell_of_row w p 3 _ t (0, 0) h]; rfl
  · rw [cell_of_row w p 4 _ t (0, 0) h]; rfl

set_option maxRecDepth 100000 in
set_option maxHeartbeats 4000000 in
theorem back_any (v vb : Value) (its : List It) (bs : List Int) (w : World) (h : Its w v its) (hsn : Sn w vb bs) (hoct : Oct bs) (hbl : bs.length ≤ 9223372036854775807) :
    Calls Try.prog 5 #[v, vb] w fun x w' => x = .returned (.bool true) ∧ Below w.heap.size w w' := by
  obtain ⟨aob, capb, rfl⟩ := hsn.form
  have HS := hid hsn
  clear hsn
  have HO := hid hoct
  have HIts := hid h
  have HM := hid (much_any v its aob bs.length capb w h hbl)
  obtain ⟨ao, cap, hv, hc, hcm, hok, hcells⟩ := h
  subst hv
  have Hcl := hid hcells
  have Hok := hid hok
  clear hcells hok hoct
  go_enter Try.func5, Try.ntmps5
  go_wp2_with fail
  refine HM.out.mono ?_
  rintro x w' ⟨hw, r, rfl, hr⟩
  subst hw
  cases r with
  | true =>
    clear hr
    go_wp2_with fail
    refine (known_any _).mono ?_
    rintro x w1 ⟨rfl, hb⟩
    have HB := hid hb
    clear hb
    go_wp2
    go_ret
    exact ⟨rfl, HB.out⟩
  | false =>
    obtain ⟨hn, hbs, hsum⟩ := hr rfl
    clear hr HM
    go_wp2
    obtain ⟨W, hW⟩ : ∃ W, W = w'.alloc (.cells #[.slice none 0 0, .int .i64 0] 29) := ⟨_, rfl⟩
    have hZ0 : WZ w' W w'.heap.size none ([], 0) := by
      rw [hW]
      exact ⟨wr_new _ w' (Nat.le_refl _), (Below.refl _ _).alloc (Nat.le_refl _) _, Nat.le_refl _⟩
    rw [← hW]
    have HZ0 := hid hZ0
    clear hZ0 hW
    rename_i K hK
    have HK := hid hK
    clear hK
    generalize hzz : w'.heap.size = z at HZ0

    clear hzz
    have Hrest : Hid (∀ (k m : Nat) (g : Option Nat) (sb : List Int) (se : Int) (t17 t18 t19 t20 t21 t22 t23 t24 t25 t26 t27 t28 t29 t30 t31 t32 t33 : Value) (wr : World), k ≤ its.length → Laid its k m (sb, se) → WZ w' wr z g (sb, se) → K { tmps := #[.slice ao its.length cap, .slice aob bs.length capb, undef, undef, .bool false, .pointer (some ⟨z, 0, none⟩), .int .i64 k, undef, undef, undef, undef, .slice ao its.length cap, .slice aob bs.length capb, .bool false, undef, .agg #[.slice none 0 0, .int .i64 0], .pointer (some ⟨z, 0, none⟩), t17, t18, t19, t20, t21, t22, t23, t24, t25, t26, t27, t28, t29, t30, t31, t32, t33, undef, undef, undef, undef, undef, undef, undef, undef, undef, undef, undef, undef, undef, undef, undef, undef, undef, undef, undef, undef, undef, undef, undef, undef, undef, undef, undef, undef, undef, undef, undef, undef, undef, undef, undef, undef, undef, undef, undef, undef, undef, undef, undef, undef, undef, undef, undef, undef, undef, undef, undef, undef, undef, undef, undef, undef, undef, undef, undef, undef, undef, undef, undef, undef, undef, undef, undef, undef, undef, undef, undef, undef, undef, undef, undef, undef, undef, undef, undef, undef, undef, undef, undef, undef, undef, undef, undef, undef, undef, undef, undef, undef, undef, undef, undef, undef], defers := [] } wr) := by
      apply hid
      intro k m g sb se t17 t18 t19 t20 t21 t22 t23 t24 t25 t26 t27 t28 t29 t30 t31 t32 t33 wr hk hL hZ
      refine HK.out _ _ ?_
      have HL := hid hL
      have HZ := hid hZ
      clear hL hZ HZ0 HK
      go_wp2_with fail
      rename_i K2 hK2 K3 hK3 K4 hK4
      have HK2 := hid hK2
      clear hK2
      have Hrest2 : Hid (∀ (m : Nat) (g : Option Nat) (sb : List Int) (se : Int) (t17 t18 t19 t20 t21 t22 t23 t24 t25 t26 t27 t28 t29 t30 t31 t32 t33 t34 t35 t36 t37 t38 : Value) (wr : World), m ≤ its.length → Hid ((layN its m).2 = 0 ∧ sb = (layN its m).1) → Hid (WZ w' wr z g (sb, se)) → K2 { tmps := #[.slice ao its.length cap, .slice aob bs.length capb, undef, undef, .bool false, .pointer (some ⟨z, 0, none⟩), .int .i64 m, undef, undef, undef, undef, .slice ao its.length cap, .slice aob bs.length capb, .bool false, undef, .agg #[.slice none 0 0, .int .i64 0], .pointer (some ⟨z, 0, none⟩), t17, t18, t19, t20, t21, t22, t23, t24, t25, t26, t27, t28, t29, t30, t31, t32, t33, t34, t35, t36, t37, t38, undef, undef, undef, undef, undef, undef, undef, undef, undef, undef, undef, undef, undef, undef, undef, undef, undef, undef, undef, undef, undef, undef, undef, undef, undef, undef, undef, undef, undef, undef, undef, undef, undef, undef, undef, undef, undef, undef, undef, undef, undef, undef, undef, undef, undef, undef, undef, undef, undef, undef, undef, undef, undef, undef, undef, undef, undef, undef, undef, undef, undef, undef, undef, undef, undef, undef, undef, undef, undef, undef, undef, undef, undef, undef, undef, undef, undef, undef, undef, undef, undef, undef, undef, undef, undef, undef, undef, undef, undef, undef, undef], defers := [] } wr) := by
        apply hid
        clear hK3 hK4 HL HZ hk
        clear g sb se m k wr t17 t18 t19 t20 t21 t22 t23 t24 t25 t26 t27 t28 t29 t30 t31 t32 t33
        intro m g sb se t17 t18 t19 t20 t21 t22 t23 t24 t25 t26 t27 t28 t29 t30 t31 t32 t33 t34 t35 t36 t37 t38 wr hm HL HZ
        refine HK2.out _ _ ?_
        have hlen := layN_len its m hm
        have hpart := sumS_part its m
        rw [← HL.out.2] at hlen
        have hoct : Oct sb := by rw [HL.out.2]; exact oct_layN its Hok.out (fun x hx => Nat.le_trans (size_mem its x hx) (by omega)) m hm
        have HOc := hid hoct
        clear hoct HK2
        go_wp2_with fail
        refine (wdataT _ z g sb se sb.length _ HZ.out.wr rfl (by omega)).mono ?_
        rintro x w8 ⟨rfl, hown, hb8⟩
        have HO8 := hid hown
        have HB8 := hid (HZ.out.bel.trans (hb8.mono HZ.out.bel.size))
        have hz8 := hb8.size
        have hz0 := HZ.out.bel.size
        clear hown hb8 HZ
        go_wp2_with fail
        refine (read_any _ sb _ (HO8.out.sl (by omega)) HOc.out (by omega)).mono ?_
        rintro x w9 ⟨p, rfl, hp, hrd, hb9⟩
        have HR9 := hid hrd
        have HB9 := hid (HB8.out.trans (hb9.mono HB8.out.size))
        have hz9 := hb9.size
        have hgw : w'.heap.size ≤ w8.heap.size := by omega
        have hpw : w'.heap.size ≤ p := by omega
        clear hrd hb9 HO8 HB8
        generalize w8.heap.size = gd at *
        go_wp2
        go_loopw [8] (fun i wr => ∃ (k : Nat), k ≤ m ∧ i = .int .i64 k ∧ Hid (Rd wr p (some gd) sb (layN its k).1.length 0) ∧ Hid (Below w'.heap.size w' wr))
          (fun i _ => m - (intOf i).toNat)
        case atStart => exact ⟨0, Nat.zero_le _, rfl, HR9, HB9⟩
        case round =>
          clear HR9 HB9
          obtain ⟨k, hk, rfl, HR, HB⟩ := hrel
          by_cases hlt : k < m
          · have hlt2 : k < its.length := by omega
            obtain ⟨b, off, rfl, hj⟩ := Hcl.out (by intro e; subst e; simp at hlt2)
            have hcx := hj k its[k] (by simp [hlt2])
            have hxok := Hok.out its[k] (List.getElem_mem hlt2)
            have hxs := it_size_part its k hlt2
            have hsu := layN_succ its k hlt2
            obtain ⟨⟨r1, hr1⟩, hq1⟩ := layN_pre its (k + 1) (m - (k + 1)) (by omega)
            obtain ⟨⟨r0, hr0⟩, hq0⟩ := layN_pre its k (m - k) (by omega)
            rw [show k + 1 + (m - (k + 1)) = m by omega] at hr1 hq1
            rw [show k + (m - k) = m by omega] at hr0 hq0
            have hq1' := hq1 HL.out.1
            have hq0' := hq0 HL.out.1
            obtain ⟨x, hxe⟩ : ∃ x, x = its[k] := ⟨_, rfl⟩
            rw [← hxe] at hcx hxok hxs hsu
            have HX := hid hxok
            have hlz : layZ ((layN its k).1, 0) x = ((layN its (k + 1)).1, 0) := by
              have e1 : ((layN its k).1, (0 : Int)) = layN its k := Prod.ext rfl hq0'.symm
              rw [e1, ← hsu]
              exact Prod.ext rfl hq1'
            have hback := back_one x hxok (by omega) (layN its k).1 (layN its (k + 1)).1 r1 hlz
            rw [← hr1, ← HL.out.2] at hback
            have HLZ := hid hlz
            obtain ⟨⟨u, i, s⟩, hw⟩ : ∃ g, wantIt x = g := ⟨_, rfl⟩
            rw [hw] at hback
            have HBK := hid hback
            have HWT := hid hw
            have HLO := hid (long_ok x hxok (by omega))
            have hIt : ∀ wx : World, Below w'.heap.size w' wx → It.at wx b (off + k * 5) x := fun wx hb => by
              obtain ⟨c0, c1, c2, c3, c4⟩ := hcx
              exact ⟨(hb.cell (World.block_lt_of_cell? _ _ c0)).trans c0, (hb.cell (World.block_lt_of_cell? _ _ c1)).trans c1, (hb.cell (World.block_lt_of_cell? _ _ c2)).trans c2, (hb.cell (World.block_lt_of_cell? _ _ c3)).trans c3, (hb.cell (World.block_lt_of_cell? _ _ c4)).trans c4⟩
            obtain ⟨c0, c1, c2, c3, c4⟩ := hIt wr HB.out
            have hi1 : (k : Int) < (m : Int) := by omega
            have hi2 : (k : Int) < (its.length : Int) := by omega
            have hi3 : (0 : Int) ≤ (k : Int) := by omega
            clear hIt hcx hj hxok hsu hr1 hr0 hq1 hq0 hq1' hq0' hlz hback hw hxe
            obtain ⟨a2, ha2⟩ : ∃ a2, a2 = (layN its (k + 1)).1.length := ⟨_, rfl⟩
            rw [← ha2] at HBK
            have HA2 := hid ha2
            clear ha2
            generalize (layN its k).1.length = a at *
            have HW := hid (fun o => (⟨rd_below HR.out ((Below.refl _ wr).alloc (Nat.le_refl _) o), HB.out.alloc HB.out.size o⟩ : Rd (wr.alloc o) p (some gd) sb a 0 ∧ Below w'.heap.size w' (wr.alloc o)))
            by_cases hk5 : x.kind = 5
            · have hk5' : (x.kind == 5) = true := by simpa using hk5
              have HN := hid (show x.long.n = x.s.size by unfold It.long; rw [if_pos hk5])
              have HWU : Hid (u = 0 ∧ i = 0 ∧ s = strBs x.s) := by
                have := HWT.out
                unfold wantIt at this
                rw [if_neg (by omega), if_neg (by omega), if_neg (by omega), if_neg (by omega), if_pos hk5] at this
                injection this with h1 h2; injection h2 with h2 h3
                exact hid ⟨h1.symm, h2.symm, h3.symm⟩
              have f1 : (x.kind == 1) = false := by rw [hk5]; rfl
              have f2 : (x.kind == 2) = false := by rw [hk5]; rfl
              have f3 : (x.kind == 3) = false := by rw [hk5]; rfl
              have f4 : (x.kind == 4) = false := by rw [hk5]; rfl
              clear hk5
              go_wp2_with fail
              obtain ⟨W6, hW6⟩ : ∃ W6, W6 = wr.alloc (.cells #[.int .i64 x.kind, .int .i64 x.s.size, .int .u64 x.u, .int .i64 x.i, .string x.s] 35) := ⟨_, rfl⟩
              rw [← hW6]
              have hX : W6.heap[wr.heap.size]? = some (.cells #[.int .i64 x.kind, .int .i64 x.s.size, .int .u64 x.u, .int .i64 x.i, .string x.s] 35 (0, 0)) := by rw [hW6]; exact heap_alloc_new wr _
              have HA6 : Hid (Rd W6 p (some gd) sb a 0 ∧ Below w'.heap.size w' W6) := by rw [hW6]; exact hid (HW.out _)
              have hpl : p < wr.heap.size := ltBlock HR.out.choose_spec.1
              have hzW : wr.heap.size < W6.heap.size := ltBlock hX
              have HXB := hid hX
              clear hW6 HW hX
              refine (tkL p (some gd) sb a W6 x x.s.size HN.out HA6.out.1 (by omega) HLO.out u i s a2 HBK.out).mono ?_
              rintro y wt ⟨rfl, hrt, hkt⟩
              have HXt := hid ((hkt.block _ hzW (by omega)).trans HXB.out)
              have HBt := hid (HA6.out.2.trans (hkt.below HA6.out.2.size (by intro j hj e; omega)))
              have HRt := hid hrt
              have hzt := hkt.size
              clear hrt hkt HA6 HXB c0 c1 c2 c3 c4 HR HB
              generalize wr.heap.size = X at *
              obtain ⟨c0, c1, c2, c3, c4⟩ := cell_of_five HXt.out
              have hXt : X < wt.heap.size := ltBlock HXt.out
              have neX : X ≠ wt.heap.size := by omega
              have HW := hid (fun o => (⟨rd_below HRt.out ((Below.refl _ wt).alloc (Nat.le_refl _) o), HBt.out.alloc HBt.out.size o⟩ : Rd (wt.alloc o) p (some gd) sb a2 0 ∧ Below w'.heap.size w' (wt.alloc o)))
              clear HRt HBt HXt
              obtain ⟨rfl, rfl, rfl⟩ := HWU.out
              rw [mkStr_strBs]
              go_wp2
              go_roundw
              case rel => first | exact ⟨k + 1, by omega, by go_num, hid (HA2.out ▸ (HW.out _).1), hid (HW.out _).2⟩ | ((repeat apply Exists.intro); exact ⟨⟨k + 1, by omega, by go_num, hid (HA2.out ▸ (HW.out _).1), hid (HW.out _).2⟩, rfl⟩)
              case measure => simp [intOf]; omega
            · have hk5' : (x.kind == 5) = false := by simpa using hk5
              have HN := hid (show x.long.n = x.n by unfold It.long; rw [if_neg hk5])
              go_wp2_with fail
              obtain ⟨W6, hW6⟩ : ∃ W6, W6 = wr.alloc (.cells #[.int .i64 x.kind, .int .i64 x.n, .int .u64 x.u, .int .i64 x.i, .string x.s] 35) := ⟨_, rfl⟩
              rw [← hW6]
              have hX : W6.heap[wr.heap.size]? = some (.cells #[.int .i64 x.kind, .int .i64 x.n, .int .u64 x.u, .int .i64 x.i, .string x.s] 35 (0, 0)) := by rw [hW6]; exact heap_alloc_new wr _
              have HA6 : Hid (Rd W6 p (some gd) sb a 0 ∧ Below w'.heap.size w' W6) := by rw [hW6]; exact hid (HW.out _)
              have hpl : p < wr.heap.size := ltBlock HR.out.choose_spec.1
              have hzW : wr.heap.size < W6.heap.size := ltBlock hX
              have HXB := hid hX
              clear hW6 HW hX
              refine (tkL p (some gd) sb a W6 x x.n HN.out HA6.out.1 (by omega) HLO.out u i s a2 HBK.out).mono ?_
              rintro y wt ⟨rfl, hrt, hkt⟩
              have HXt := hid ((hkt.block _ hzW (by omega)).trans HXB.out)
              have HBt := hid (HA6.out.2.trans (hkt.below HA6.out.2.size (by intro j hj e; omega)))
              have HRt := hid hrt
              have hzt := hkt.size
              clear hrt hkt HA6 HXB c0 c1 c2 c3 c4 HR HB
              generalize wr.heap.size = X at *
              obtain ⟨c0, c1, c2, c3, c4⟩ := cell_of_five HXt.out
              have hXt : X < wt.heap.size := ltBlock HXt.out
              have neX : X ≠ wt.heap.size := by omega
              have HW := hid (fun o => (⟨rd_below HRt.out ((Below.refl _ wt).alloc (Nat.le_refl _) o), HBt.out.alloc HBt.out.size o⟩ : Rd (wt.alloc o) p (some gd) sb a2 0 ∧ Below w'.heap.size w' (wt.alloc o)))
              clear HRt HBt HXt
              by_cases hk1 : x.kind = 1
              · have HWU : Hid (u = x.u % 256 ∧ i = 0 ∧ s = []) := by
                  have := HWT.out
                  unfold wantIt at this
                  rw [if_pos hk1] at this
                  injection this with h1 h2; injection h2 with h2 h3
                  exact hid ⟨h1.symm, h2.symm, h3.symm⟩
                have f1 : (x.kind == 1) = true := by simp [hk1]
                have f2 : (x.kind == 2) = false := by simp [hk1]
                have f3 : (x.kind == 3) = false := by simp [hk1]
                have f4 : (x.kind == 4) = false := by simp [hk1]
                have f5 : (x.kind == 5) = false := by simp [hk1]
                clear hk1 hk5 hk5'
                obtain ⟨rfl, rfl, rfl⟩ := HWU.out
                have ht1 : (x.u % 256 != x.u.tmod 256) = false := by rw [Int.tmod_eq_emod_of_nonneg HX.out.2.2.1.1]; simp
                go_wp2
                go_roundw
                case rel => first | exact ⟨k + 1, by omega, by go_num, hid (HA2.out ▸ (HW.out _).1), hid (HW.out _).2⟩ | ((repeat apply Exists.intro); exact ⟨⟨k + 1, by omega, by go_num, hid (HA2.out ▸ (HW.out _).1), hid (HW.out _).2⟩, rfl⟩)
                case measure => simp [intOf]; omega
              by_cases hk2 : x.kind = 2
              · have HWU : Hid (u = x.u % 256 ^ x.n.toNat ∧ i = 0 ∧ s = []) := by
                  have := HWT.out
                  unfold wantIt at this
                  rw [if_neg (by omega), if_pos hk2] at this
                  injection this with h1 h2; injection h2 with h2 h3
                  exact hid ⟨h1.symm, h2.symm, h3.symm⟩
                have hn8 : 0 ≤ x.n ∧ x.n ≤ 8 := by
                  have := HLZ.out
                  unfold layZ wfixZ at this
                  rw [if_neg (by omega), if_pos hk2, if_pos rfl] at this
                  by_cases hh : x.n < 0 ∨ 8 < x.n
                  · rw [if_pos hh] at this
                    simp at this
                  · omega
                have f1 : (x.kind == 1) = false := by simp [hk2]
                have f2 : (x.kind == 2) = true := by simp [hk2]
                have f3 : (x.kind == 3) = false := by simp [hk2]
                have f4 : (x.kind == 4) = false := by simp [hk2]
                have f5 : (x.kind == 5) = false := by simp [hk2]
                clear hk1 hk2 hk5 hk5'
                obtain ⟨hu0, rfl, rfl⟩ := HWU.out
                have HU := hid hu0
                clear hu0
                go_wp2_with fail
                have HW2 := hid (fun (o : Obj) (nq : Nat) => (⟨(HW.out o).1.drewN nq, (HW.out o).2.trans ((below_drewN (wt.alloc o) nq w'.heap.size))⟩ : Rd ((wt.alloc o).drewN nq) p (some gd) sb a2 0 ∧ Below w'.heap.size w' ((wt.alloc o).drewN nq)))
                have hn9 : x.n = 0 ∨ x.n = 1 ∨ x.n = 2 ∨ x.n = 3 ∨ x.n = 4 ∨ x.n = 5 ∨ x.n = 6 ∨ x.n = 7 ∨ x.n = 8 := by omega
                clear hn8 HW
                rcases hn9 with hn0 | hn1 | hn2 | hn3 | hn4 | hn5 | hn6 | hn7 | hn8
                · have hu : u = x.u.tmod 1 := by rw [HU.out, hn0, Int.tmod_eq_emod_of_nonneg HX.out.2.2.1.1]; rfl
                  subst hu
                  go_quiet (fail)
                  go_wp2
                  go_roundw
                  case rel => first | exact ⟨k + 1, by omega, by go_num, hid (HA2.out ▸ (HW2.out _ _).1), hid (HW2.out _ _).2⟩ | ((repeat apply Exists.intro); exact ⟨⟨k + 1, by omega, by go_num, hid (HA2.out ▸ (HW2.out _ _).1), hid (HW2.out _ _).2⟩, rfl⟩)
                  case measure => simp [intOf]; omega
                · have hu : u = x.u.tmod 256 := by rw [HU.out, hn1, Int.tmod_eq_emod_of_nonneg HX.out.2.2.1.1]; rfl
                  subst hu
                  go_quiet (fail)
                  go_wp2
                  go_roundw
                  case rel => first | exact ⟨k + 1, by omega, by go_num, hid (HA2.out ▸ (HW2.out _ _).1), hid (HW2.out _ _).2⟩ | ((repeat apply Exists.intro); exact ⟨⟨k + 1, by omega, by go_num, hid (HA2.out ▸ (HW2.out _ _).1), hid (HW2.out _ _).2⟩, rfl⟩)
                  case measure => simp [intOf]; omega
                · have hu : u = x.u.tmod 65536 := by rw [HU.out, hn2, Int.tmod_eq_emod_of_nonneg HX.out.2.2.1.1]; rfl
                  subst hu
                  go_quiet (fail)
                  go_wp2
                  go_roundw
                  case rel => first | exact ⟨k + 1, by omega, by go_num, hid (HA2.out ▸ (HW2.out _ _).1), hid (HW2.out _ _).2⟩ | ((repeat apply Exists.intro); exact ⟨⟨k + 1, by omega, by go_num, hid (HA2.out ▸ (HW2.out _ _).1), hid (HW2.out _ _).2⟩, rfl⟩)
                  case measure => simp [intOf]; omega
                · have hu : u = x.u.tmod 16777216 := by rw [HU.out, hn3, Int.tmod_eq_emod_of_nonneg HX.out.2.2.1.1]; rfl
                  subst hu
                  go_quiet (fail)
                  go_wp2
                  go_roundw
                  case rel => first | exact ⟨k + 1, by omega, by go_num, hid (HA2.out ▸ (HW2.out _ _).1), hid (HW2.out _ _).2⟩ | ((repeat apply Exists.intro); exact ⟨⟨k + 1, by omega, by go_num, hid (HA2.out ▸ (HW2.out _ _).1), hid (HW2.out _ _).2⟩, rfl⟩)
                  case measure => simp [intOf]; omega
                · have hu : u = x.u.tmod 4294967296 := by rw [HU.out, hn4, Int.tmod_eq_emod_of_nonneg HX.out.2.2.1.1]; rfl
                  subst hu
                  go_quiet (fail)
                  go_wp2
                  go_roundw
                  case rel => first | exact ⟨k + 1, by omega, by go_num, hid (HA2.out ▸ (HW2.out _ _).1), hid (HW2.out _ _).2⟩ | ((repeat apply Exists.intro); exact ⟨⟨k + 1, by omega, by go_num, hid (HA2.out ▸ (HW2.out _ _).1), hid (HW2.out _ _).2⟩, rfl⟩)
                  case measure => simp [intOf]; omega
                · have hu : u = x.u.tmod 1099511627776 := by rw [HU.out, hn5, Int.tmod_eq_emod_of_nonneg HX.out.2.2.1.1]; rfl
                  subst hu
                  go_quiet (fail)
                  go_wp2
                  go_roundw
                  case rel => first | exact ⟨k + 1, by omega, by go_num, hid (HA2.out ▸ (HW2.out _ _).1), hid (HW2.out _ _).2⟩ | ((repeat apply Exists.intro); exact ⟨⟨k + 1, by omega, by go_num, hid (HA2.out ▸ (HW2.out _ _).1), hid (HW2.out _ _).2⟩, rfl⟩)
                  case measure => simp [intOf]; omega
                · have hu : u = x.u.tmod 281474976710656 := by rw [HU.out, hn6, Int.tmod_eq_emod_of_nonneg HX.out.2.2.1.1]; rfl
                  subst hu
                  go_quiet (fail)
                  go_wp2
                  go_roundw
                  case rel => first | exact ⟨k + 1, by omega, by go_num, hid (HA2.out ▸ (HW2.out _ _).1), hid (HW2.out _ _).2⟩ | ((repeat apply Exists.intro); exact ⟨⟨k + 1, by omega, by go_num, hid (HA2.out ▸ (HW2.out _ _).1), hid (HW2.out _ _).2⟩, rfl⟩)
                  case measure => simp [intOf]; omega
                · have hu : u = x.u.tmod 72057594037927936 := by rw [HU.out, hn7, Int.tmod_eq_emod_of_nonneg HX.out.2.2.1.1]; rfl
                  subst hu
                  go_quiet (fail)
                  go_wp2
                  go_roundw
                  case rel => first | exact ⟨k + 1, by omega, by go_num, hid (HA2.out ▸ (HW2.out _ _).1), hid (HW2.out _ _).2⟩ | ((repeat apply Exists.intro); exact ⟨⟨k + 1, by omega, by go_num, hid (HA2.out ▸ (HW2.out _ _).1), hid (HW2.out _ _).2⟩, rfl⟩)
                  case measure => simp [intOf]; omega
                · have hu : u = x.u := by rw [HU.out, hn8]; exact Int.emod_eq_of_lt HX.out.2.2.1.1 HX.out.2.2.1.2
                  subst hu
                  go_quiet (fail)
                  go_wp2
                  go_roundw
                  case rel => first | exact ⟨k + 1, by omega, by go_num, hid (HA2.out ▸ (HW2.out _ _).1), hid (HW2.out _ _).2⟩ | ((repeat apply Exists.intro); exact ⟨⟨k + 1, by omega, by go_num, hid (HA2.out ▸ (HW2.out _ _).1), hid (HW2.out _ _).2⟩, rfl⟩)
                  case measure => simp [intOf]; omega
              by_cases hk3 : x.kind = 3
              · have HWU : Hid (u = 0 ∧ i = x.n ∧ s = []) := by
                  have := HWT.out
                  unfold wantIt at this
                  rw [if_neg (by omega), if_neg (by omega), if_pos hk3] at this
                  injection this with h1 h2; injection h2 with h2 h3
                  exact hid ⟨h1.symm, h2.symm, h3.symm⟩
                have f1 : (x.kind == 1) = false := by simp [hk3]
                have f2 : (x.kind == 2) = false := by simp [hk3]
                have f3 : (x.kind == 3) = true := by simp [hk3]
                have f4 : (x.kind == 4) = false := by simp [hk3]
                have f5 : (x.kind == 5) = false := by simp [hk3]
                clear hk1 hk2 hk3 hk5 hk5'
                obtain ⟨rfl, rfl, rfl⟩ := HWU.out
                go_wp2
                go_roundw
                case rel => first | exact ⟨k + 1, by omega, by go_num, hid (HA2.out ▸ (HW.out _).1), hid (HW.out _).2⟩ | ((repeat apply Exists.intro); exact ⟨⟨k + 1, by omega, by go_num, hid (HA2.out ▸ (HW.out _).1), hid (HW.out _).2⟩, rfl⟩)
                case measure => simp [intOf]; omega
              by_cases hk4 : x.kind = 4
              · have HWU : Hid (u = 0 ∧ i = x.i ∧ s = []) := by
                  have := HWT.out
                  unfold wantIt at this
                  rw [if_neg (by omega), if_neg (by omega), if_neg (by omega), if_pos hk4] at this
                  injection this with h1 h2; injection h2 with h2 h3
                  exact hid ⟨h1.symm, h2.symm, h3.symm⟩
                have f1 : (x.kind == 1) = false := by simp [hk4]
                have f2 : (x.kind == 2) = false := by simp [hk4]
                have f3 : (x.kind == 3) = false := by simp [hk4]
                have f4 : (x.kind == 4) = true := by simp [hk4]
                have f5 : (x.kind == 5) = false := by simp [hk4]
                clear hk1 hk2 hk3 hk4 hk5 hk5'
                obtain ⟨rfl, rfl, rfl⟩ := HWU.out
                go_wp2
                go_roundw
                case rel => first | exact ⟨k + 1, by omega, by go_num, hid (HA2.out ▸ (HW.out _).1), hid (HW.out _).2⟩ | ((repeat apply Exists.intro); exact ⟨⟨k + 1, by omega, by go_num, hid (HA2.out ▸ (HW.out _).1), hid (HW.out _).2⟩, rfl⟩)
                case measure => simp [intOf]; omega
              have f1 : (x.kind == 1) = false := by simpa using hk1
              have f2 : (x.kind == 2) = false := by simpa using hk2
              have f3 : (x.kind == 3) = false := by simpa using hk3
              have f4 : (x.kind == 4) = false := by simpa using hk4
              clear hk1 hk2 hk3 hk4 hk5
              go_wp2
              go_roundw
              case rel => first | exact ⟨k + 1, by omega, by go_num, hid (HA2.out ▸ (HW.out _).1), hid (HW.out _).2⟩ | ((repeat apply Exists.intro); exact ⟨⟨k + 1, by omega, by go_num, hid (HA2.out ▸ (HW.out _).1), hid (HW.out _).2⟩, rfl⟩)
              case measure => simp [intOf]; omega
          · obtain rfl : k = m := by omega
            have hlm : (layN its k).1.length = sb.length := by rw [HL.out.2]
            rw [hlm] at HR
            clear hlm
            go_wp2_with fail
            refine (end_any p (some gd) sb sb.length 0 _ HR.out).mono ?_
            rintro x w10 ⟨hd10, rfl⟩
            rw [show endZ sb.length sb.length 0 = 0 by simp [endZ]]
            have HB10 := hid (HB.out.trans ((drawnBelow hd10 _).mono HB.out.size))
            clear hd10 HR HB
            go_wp2_with fail
            refine (again_any _ _ bs its _ (HS.out.below HB10.out).1 HO.out hbs (itsBelow HIts.out HB10.out) hn).mono ?_
            rintro x w11 ⟨rfl, hb11⟩
            have HB11 := hid (HB10.out.trans (hb11.mono HB10.out.size))
            clear hb11 HB10
            go_wp2_with fail
            refine (known_any _).mono ?_
            rintro x w12 ⟨rfl, hb12⟩
            have HB12 := hid (HB11.out.trans (hb12.mono HB11.out.size))
            clear hb12 HB11
            go_wp2
            go_ret
            exact ⟨rfl, HB12.out⟩
      clear HK2
      refine (werr_any _ z g sb se _ HZ.out.wr).mono ?_
      rintro e w9 ⟨rfl, hww⟩
      have hww2 := hww.symm
      clear hww
      subst hww2
      by_cases he : se = 0
      · subst he
        obtain rfl : m = k := HL.out.2.2.2.1 rfl
        go_wp2_with fail
        exact Hrest2.out m g sb 0 _ _ _ _ _ _ _ _ _ _ _ _ _ _ _ _ _ _ _ _ _ _ _ hk (hid ⟨HL.out.2.1, HL.out.2.2.1⟩) HZ
      · have he2 : (se != 0) = true := by simpa using he
        obtain rfl : k = m + 1 := HL.out.2.2.2.2 he
        have hm1 : ((m + 1 : Nat) : Int) - 1 = (m : Int) := by omega
        go_wp2_with fail
        exact Hrest2.out m g sb se _ _ _ _ _ _ _ _ _ _ _ _ _ _ _ _ _ _ _ _ _ _ _ (by omega) (hid ⟨HL.out.2.1, HL.out.2.2.1⟩) HZ
    clear HK
    go_loopw [6] (fun i wr => ∃ (k m : Nat) (g : Option Nat) (sb : List Int) (se : Int), k ≤ its.length ∧ i = .int .i64 k ∧ Hid (Laid its k m (sb, se)) ∧ Hid (WZ w' wr z g (sb, se)))
      (fun i _ => its.length - (intOf i).toNat)
    case atStart => exact ⟨0, 0, none, [], 0, Nat.zero_le _, rfl, hid (Laid.start its), HZ0⟩
    case round =>
      clear HZ0
      obtain ⟨k, m, g, sb, se, hk, rfl, HL, HZ⟩ := hrel
      by_cases hlt : k < its.length
      · by_cases he : se = 0
        · subst he
          obtain ⟨b, off, rfl, hj⟩ := Hcl.out (by intro e; subst e; simp at hlt)
          have hcx := hj k its[k] (by simp [hlt])
          have hxok := Hok.out its[k] (List.getElem_mem hlt)
          have hxs := it_size_part its k hlt
          have hnext := HL.out.next rfl hlt
          have hlen := layN_len its m (by have := HL.out.1; omega)
          have hpart := sumS_part its m
          rw [← HL.out.2.2.1] at hlen
          dsimp only at hlen
          have hmk := HL.out.1
          obtain ⟨x, hxe⟩ : ∃ x, x = its[k] := ⟨_, rfl⟩
          rw [← hxe] at hcx hxok hxs hnext
          have HX := hid hxok
          obtain ⟨m2, hL2⟩ := hnext
          have HL2 := hid hL2
          have hIt : ∀ wx : World, Below w'.heap.size w' wx → It.at wx b (off + k * 5) x := fun wx hb => by
            obtain ⟨c0, c1, c2, c3, c4⟩ := hcx
            exact ⟨(hb.cell (World.block_lt_of_cell? _ _ c0)).trans c0, (hb.cell (World.block_lt_of_cell? _ _ c1)).trans c1, (hb.cell (World.block_lt_of_cell? _ _ c2)).trans c2, (hb.cell (World.block_lt_of_cell? _ _ c3)).trans c3, (hb.cell (World.block_lt_of_cell? _ _ c4)).trans c4⟩
          obtain ⟨c0, c1, c2, c3, c4⟩ := hIt wr HZ.out.bel
          clear hIt hcx hj hxok hxe hL2 HL
          have hi1 : (k : Int) < (its.length : Int) := by omega
          go_wp2_with (go_at_call 15; refine (werr_any _ z g sb 0 _ HZ.out.wr).mono ?_; rintro e w9 ⟨rfl, hww⟩; have hww2 := hww.symm; clear hww; subst hww2)
          refine (lay_any w'.heap.size z g sb 0 _ x HZ.out.wr HZ.out.bel.size HX.out (by omega) (by omega)).mono ?_
          rintro y w6 ⟨rfl, hst⟩
          obtain ⟨g2, has6⟩ := HZ.out.lay (s2 := layZ (sb, 0) x) hst
          obtain ⟨⟨sb2, se2⟩, hs2⟩ : ∃ s2, s2 = layZ (sb, 0) x := ⟨_, rfl⟩
          rw [← hs2] at has6
          have H6 := hid has6
          have HL3 : Hid (Laid its (k + 1) m2 (sb2, se2)) := by rw [hs2]; exact hid HL2.out
          clear hst has6 c0 c1 c2 c3 c4 hs2 HL2 HZ
          go_wp2
          go_roundw
          case rel => first | exact ⟨k + 1, m2, g2, sb2, se2, by omega, by go_num, HL3, H6⟩ | ((repeat apply Exists.intro); exact ⟨⟨k + 1, m2, g2, sb2, se2, by omega, by go_num, HL3, H6⟩, rfl⟩)
          case measure => simp [intOf]; omega
        · have he2 : (se == 0) = false := by simpa using he
          have hi1 : (k : Int) < (its.length : Int) := by omega
          go_wp2_with (go_at_call 15; refine (werr_any _ z g sb se _ HZ.out.wr).mono ?_; rintro e w9 ⟨rfl, hww⟩; have hww2 := hww.symm; clear hww; subst hww2)
          exact Hrest.out k m g sb se _ _ _ _ _ _ _ _ _ _ _ _ _ _ _ _ _ _ hk HL.out HZ.out
      · obtain rfl : k = its.length := by omega
        go_wp2_with fail
        exact Hrest.out its.length m g sb se _ _ _ _ _ _ _ _ _ _ _ _ _ _ _ _ _ _ hk HL.out HZ.out

end Go.Proofs.Ytamajeagmkjjbaa
