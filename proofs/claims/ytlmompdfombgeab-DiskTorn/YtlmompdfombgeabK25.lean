import Derived.Test.YtlmompdfombgeabK24
namespace Go.Proofs.Ytlmompdfombgeab
open Go.RowKit Go.MapKept

set_option maxRecDepth 100000 in
set_option maxHeartbeats 32000000 in
theorem torn_law (v0 : Value) (base : List Int) (v1 : Value) (xs : List Cg) (done : Int) (v3 : Value) (lost : List Int) (w : World)
    (h0 : Rf w 1 v0 base.length (base.flatMap fun y => [.int .u8 y])) (h0b : ∀ y ∈ base, 0 ≤ y ∧ y < 256) (h1 : Cgs w v1 xs) (hd : I64 done) (h3 : Ln w v3 lost) (h3b : ∀ y ∈ lost, I64 y) :
    Calls Try.prog 3 #[v0, v1, .int .i64 done, v3] w fun x w' => x = .returned (.bool true) ∧ Below w.heap.size w w' := by
  obtain ⟨a0, c0, rfl, hc0, hm0⟩ := h0.shape
  obtain ⟨a1, c1, rfl, hc1, hm1⟩ := h1.1.shape
  obtain ⟨a3, c3, rfl, hc3, hm3⟩ := h3.shape
  rw [flat8] at h0
  have HB := hid h0.sl
  have HC := hid h1
  have HL := hid h3
  have HI := hid (And.intro h0b (And.intro hd h3b))
  clear h0 h0b h1 hd h3 h3b hm0 hm1 hm3
  go_enter Try.func3, Try.ntmps3
  go_upto_region 4 with (
    go_at_call 4
    refine (known_any _).mono ?_
    rintro e w1 ⟨rfl, hb1⟩
    have HK := hid hb1
    clear hb1)
  all_goals try (go_ret; exact ⟨rfl, HK.out⟩)
  have hg : ((base.length : Int) ≤ 200000 ∧ (xs.length : Int) ≤ 60) ∧ (lost.length : Int) ≤ 300 := by assumption
  obtain ⟨⟨g0, g1⟩, g2⟩ := hg
  have h20 : base.length ≤ 200000 := by omega
  have h60 : xs.length ≤ 60 := by omega
  have h300 : lost.length ≤ 300 := by omega
  clear g0 g1 g2
  go_wp2_with fail
  go_loopw [9, 10] (fun nv ix wr => ∃ (i : Nat), i ≤ xs.length ∧ nv = .int .i64 ((base.length + sumC xs i : Nat) : Int) ∧ ix = .int .i64 i ∧ wr = w ∧ base.length + sumC xs i ≤ 200000) (fun _ ix _ => xs.length - (intOf ix).toNat)
  case atStart => exact ⟨0, Nat.zero_le _, rfl, rfl, rfl, by simpa [sumC] using h20⟩
  case round =>
    obtain ⟨i, hi, rfl, rfl, hwr, hs⟩ := hrel
    subst hwr
    by_cases hlt : i < xs.length
    · as_aux_lemma =>
      have hlt' : (i : Int) < (xs.length : Int) := by omega
      obtain ⟨b, ofs, cap', e, -, -, hcell⟩ := Rf.elem (f := ccs) (fun _ => rfl) (by omega) HC.out.1 i hlt
      injection e with e1 e2 e3
      subst e1 e3
      clear e2
      obtain ⟨ad, cd, hdv, -⟩ := (HC.out.2 xs[i] (List.getElem_mem hlt)).2.1.shape
      have hsu := sumC_succ xs i xs[i] (List.getElem?_eq_getElem hlt)
      obtain ⟨m, hm⟩ : ∃ m, xs[i].data.length = m := ⟨_, rfl⟩
      have y2 := hcell 2 _ rfl
      rw [hdv, hm] at y2
      rw [hm] at hsu
      obtain ⟨s, hss⟩ : ∃ s, sumC xs i = s := ⟨_, rfl⟩
      rw [hss] at hs hsu ⊢
      clear hcell hdv hm hss
      by_cases hm2 : m ≤ 200000
      · have hm3 : (m : Int) ≤ 200000 := by omega
        by_cases hs2 : base.length + s + m ≤ 200000
        · have hs3 : ((base.length + s : Nat) : Int) + (m : Int) ≤ 200000 := by omega
          go_wp2
          clear y2
          go_roundw
          case rel => exact ⟨i + 1, by omega, by rw [hsu]; go_num, by go_num, (by first | rfl | trivial), by omega⟩
          case measure => simp [intOf]; omega
        · have hs3 : ¬ ((base.length + s : Nat) : Int) + (m : Int) ≤ 200000 := by omega
          go_wp2_with (
            go_at_call 4
            refine (known_any _).mono ?_
            rintro e w1 ⟨rfl, hb1⟩
            have HK := hid hb1
            clear hb1)
          go_ret
          exact ⟨rfl, HK.out⟩
      · have hm3 : ¬ (m : Int) ≤ 200000 := by omega
        go_wp2_with (
          go_at_call 4
          refine (known_any _).mono ?_
          rintro e w1 ⟨rfl, hb1⟩
          have HK := hid hb1
          clear hb1)
        go_ret
        exact ⟨rfl, HK.out⟩
    · obtain rfl : i = xs.length := by omega
      have HSU := hid hs
      clear hlt hi hs
      go_upto_region 15 with (first
        | (go_at_call 5
           refine (fresh_ok 4194304 1 _ (by omega) (by omega) (by omega) (by omega)).mono ?_
           rintro e w2 ⟨rfl, ⟨t0, hd2, hl2⟩, hb2⟩
           have H2 := hid (show Dk wr w2 wr.heap.size t0 (newD 4194304 1) 0 from ⟨hd2, newD_WD 4194304 1 (by omega) (by omega) (by omega) (by omega), hl2, hb2⟩)
           clear hd2 hl2 hb2)
        | (go_at_call 6
           refine (t_create H2.out).mono ?_
           rintro e w3 ⟨rfl, t3, h3⟩
           have H3 := hid h3
           clear h3)
        | (go_at_call 7
           refine (t_app0 H3.out a0 c0 base HB.out.1 h20).mono ?_
           rintro e w4 ⟨rfl, t4, h4⟩
           have H4 := hid h4
           clear h4)
        | (go_at_call 8
           refine (t_sync H4.out).mono ?_
           rintro e w5 ⟨rfl, t5, h5⟩
           have H5 := hid h5
           clear h5)
        | (go_at_call 9
           refine (t_syncN H5.out).mono ?_
           rintro e w6 ⟨rfl, t6, h6⟩
           have H6 := hid h6
           clear h6))
      clear H2 H3 H4 H5
      refine cutG (fun W => Dk wr W wr.heap.size t6 (oneD base [] 4) 8) H6.out ?_
      intro w7 h7
      have H7 := hid h7
      clear H6 h7
      generalize hdd : wr.heap.size = d at H7 ⊢
      have HDD := hid hdd
      clear hdd
      go_wp2_with fail
      go_loopw [13, 14] (fun rv ix wq => ∃ (i : Nat) (ao : Option Addr) (c : Nat), i ≤ base.length ∧ rv = .slice ao i c ∧ ix = .int .i64 i ∧ Hid (Below w7.heap.size w7 wq ∧ wq.ownsRow w7.heap.size 37 2 (.slice ao i c) i (cellsR (firstR base i)))) (fun _ ix _ => base.length - (intOf ix).toNat)
      case atStart => exact ⟨0, none, 0, Nat.zero_le _, rfl, rfl, hid ⟨Below.refl _ _, owns_nil _ _ _ _⟩⟩
      case round =>
        rename World => wq
        obtain ⟨i, ao, c, hi, rfl, rfl, hR⟩ := hrel
        by_cases hlt : i < base.length
        · as_aux_lemma =>
          have hlt' : (i : Int) < (base.length : Int) := by omega
          obtain ⟨aq, cq, e, -, hcell⟩ := HB.out.1
          injection e with e1 e2 e3
          subst e1 e3
          clear e2
          obtain ⟨b, off, rfl, hcl⟩ := hcell (List.ne_nil_of_length_pos (by omega))
          obtain ⟨x, hx⟩ : ∃ x, base[i]? = some x := ⟨_, List.getElem?_eq_getElem hlt⟩
          have y0 := ((H7.out.hb.trans (hR.out.1.mono H7.out.hb.size)).cell (World.block_lt_of_cell? _ _ (hcl i x hx))).trans (hcl i x hx)
          have HX := hid hx
          clear hcell hcl hx
          have hz7 := hR.out.1.size
          go_upto_region 19 with (
            at_builtin
            refine wpList_append_rf _ rfl (.tmp 100) (.tmp 106) 35 37 _ 2 2 rfl Try.underlying35 Try.info37 rfl (by omega) w7.heap.size (.slice ao i c) i (cellsR (firstR base i)) rfl (ownsRow_kept hR.out.2 (Kept.ofBelow (bel_al _ _)) (fun _ _ h => h)) (.slice (some ⟨wq.heap.size, 0, none⟩) 1 1) 1 [.int .u8 x, .bool false] rfl (rf_cell1 wq x false) (by omega) (by unfold maxLen; omega) (by simp; omega) ?_
            intro ao2 c2 w2 hown hgr hob
            have HM := hid (show Below w7.heap.size w7 w2 ∧ w2.ownsRow w7.heap.size 37 2 (.slice ao2 (i + 1) c2) (i + 1) (cellsR (firstR base (i + 1))) from ⟨own_below hR.out.1 hR.out.2 hgr.out, by rw [firstR_snoc base i x HX.out]; exact hown.out⟩)
            clear hown hgr hob)
          clear y0 HX hz7 hR
          go_wp2
          go_roundw
          case rel => first | exact ⟨i + 1, ao2, c2, by omega, rfl, by go_num, HM⟩ | ((repeat apply Exists.intro); exact ⟨⟨i + 1, ao2, c2, by omega, rfl, by go_num, HM⟩, rfl⟩)
          case measure => simp [intOf]; omega
        · obtain rfl : i = base.length := by omega
          rw [firstR_all] at hR
          have hz := H7.out.hb.size
          have hz7 := hR.out.1.size
          clear hlt hi
          go_upto_region 22 with (
            at_builtin
            refine wpList_append_rf _ rfl (.tmp 108) (.tmp 110) 34 35 _ 1 24 rfl Try.underlying34 Try.info35 rfl (by omega) wr.heap.size (.slice none 0 0) 0 [] rfl (owns_nil _ _ _ _) (.slice (some ⟨wq.heap.size, 0, none⟩) 1 1) 1 [.slice ao base.length c] rfl (rf_head1 wq _ rfl) (by omega) (by unfold maxLen; omega) (by simp; omega) ?_
            intro ao2 c2 w2 hown hgr hob
            have HT := hid (ts_start (H7.out.below hR.out.1) (own_mono hR.out.2 hz) hown.out hgr.out)
            clear hown hgr hob)
          have HM := hid (show base.length + sumC xs xs.length ≤ 200000 from HSU.out)
          refine cutG (fun W => TS wr W d t6 base [] 4 8 (.slice ao2 1 c2) [.slice ao base.length c]) HT.out ?_
          intro w8 h8
          have H8 := hid h8
          clear h8 HT H7 hR hz hz7 HSU
          go_wp2_with fail
          go_loopw [12, 15] (fun rv ix wq => ∃ (i q : Nat) (cs : List Chg) (t : Wt) (ao : Option Addr) (c : Nat) (vs : List Value), i ≤ xs.length ∧ rv = .slice ao (q + 1) c ∧ ix = .int .i64 i ∧ Hid (TS wr wq d t base cs (4 + i) (8 + 2 * i) (.slice ao (q + 1) c) vs ∧ peakC base cs ≤ base.length + sumC xs i ∧ cs.length = q ∧ q ≤ i)) (fun _ ix _ => xs.length - (intOf ix).toNat)
          case atStart => exact ⟨0, 0, [], t6, ao2, c2, _, Nat.zero_le _, rfl, rfl, hid ⟨H8.out, by simp [peakC_nil, sumC], rfl, Nat.le_refl _⟩⟩
          case round =>
            clear H8
            rename World => wq
            obtain ⟨i, q, cs, t, ar, cr, vs, hi, rfl, rfl, hT⟩ := hrel
            by_cases hlt : i < xs.length
            · as_aux_lemma =>
              have hlt' : (i : Int) < (xs.length : Int) := by omega
              obtain ⟨b, ofs, cap', e, -, -, hcell⟩ := Rf.elem (f := ccs) (fun _ => rfl) (by omega) HC.out.1 i hlt
              injection e with e1 e2 e3
              subst e1 e3
              clear e2
              obtain ⟨hok1, hok2, hok3, hok4⟩ := HC.out.2 xs[i] (List.getElem_mem hlt)
              have hsu := sumC_succ xs i xs[i] (List.getElem?_eq_getElem hlt)
              have hsm := sumC_mono xs (show i + 1 ≤ xs.length from hlt)
              obtain ⟨x, hx⟩ : ∃ x, x = xs[i] := ⟨_, rfl⟩
              rw [← hx] at hok1 hok2 hok3 hok4 hcell hsu
              obtain ⟨cut, size, dv, data⟩ := x
              dsimp only at hok1 hok2 hok3 hok4 hsu
              obtain ⟨ad, cd, rfl, hcd, -⟩ := hok2.shape
              rw [flat8] at hok2
              have HD := hid hok2.sl
              have HSZ := hid hok1
              have hcq := fun c u hu => ((hT.out.1.dk.hb.cell (World.block_lt_of_cell? _ _ (hcell c u hu))).trans (hcell c u hu))
              have y0 := (show wq.cell? ⟨b, ofs + i * 3, none⟩ = some (.bool cut) from hcq 0 _ rfl)
              have y1 := (show wq.cell? ⟨b, ofs + i * 3 + 1, none⟩ = some (.int .i64 size) from hcq 1 _ rfl)
              have y2 := (show wq.cell? ⟨b, ofs + i * 3 + 2, none⟩ = some (.slice ad data.length cd) from hcq 2 _ rfl)
              have hqc := hT.out.2.2.1
              have hci := hT.out.2.2.2
              have hpk := hT.out.2.1
              have hrp := row_le_peak base cs
              have hM := HM.out
              obtain ⟨v, -, hrow, br, cpr, e, hl1, -, z0, aw, cw, rfl⟩ := hT.out.1.rw.at_ (rowsC_get base cs cs.length (Nat.le_refl _))
              rw [rowsC_len, hqc] at e hl1
              rw [List.take_length] at hrow z0
              rw [hqc] at z0
              have HQC := hid hqc
              injection e with e1 e2 e3
              subst e1 e3
              have hrl := rowC_len base cs
              have HRW := hid hrow
              obtain ⟨m, hm⟩ : ∃ m, m = (rowC base cs).1.length := ⟨_, rfl⟩
              rw [← hm] at hrp hrl z0 HRW
              have HMM := hid hm
              clear hcell hcq hok1 hok2 hok3 hok4 hx e2 hrow hm hqc
              have hDB : data.length ≤ 200000 := by omega
              have hmb : m ≤ 200000 := by omega
              have hcs0 : (q : Int) < ((q + 1 : Nat) : Int) := by omega
              have hcs1 : (0 : Int) ≤ (q : Int) := by omega
              have hqb : (q : Int) ≤ 60 := by omega
              have hwq : wrap64 (q : Int) = (q : Int) := by unfold wrap64; omega
              go_upto_region 26 with fail
              have hba := bel_al wq (.cells #[.bool cut, .int .i64 size, .slice ad data.length cd] 27)
              refine cutG (fun W => TS wr W d t base cs (4 + i) (8 + 2 * i) (.slice (some ⟨br, 0, none⟩) (q + 1) cr) vs ∧ W.heap[wq.heap.size]? = some (.cells #[.bool cut, .int .i64 size, .slice ad data.length cd] 27 (0, 0)) ∧ W.cell? ⟨br, q, none⟩ = some (.slice aw m cw) ∧ W.ownsRow wr.heap.size 37 2 (.slice aw m cw) m (cellsR (rowC base cs)))
                ⟨hT.out.1.below hba, hp_new wq _, (hba.cell (World.block_lt_of_cell? _ _ z0)).trans z0, ownsRow_kept HRW.out (Kept.ofBelow hba) (fun _ _ h => h)⟩ ?_
              rintro W ⟨hs9, hx9, z9, hr9⟩
              clear y0 y1 y2 z0 hba
              generalize wq.heap.size = xb at hx9 ⊢
              obtain ⟨x0, x1, x2⟩ := chg_cells hx9 (Below.refl _ W)
              have H9 := hid (And.intro hs9 (And.intro hx9 hr9))
              have HNU := hid (And.intro hsu (And.intro hsm (And.intro hpk (And.intro hrp (And.intro hM (And.intro hrl hci))))))
              have HNV := hid (And.intro hDB (And.intro hmb (And.intro h20 (And.intro h60 (And.intro h300 (And.intro hi hlt))))))
              clear hs9 hx9 hr9 hT HRW hsu hsm hpk hrp hM hrl hci hl1 hcd hDB hmb h20 h60 h300 hc0 hc1 hc3 hi hlt hlt'
              go_upto_region 28 with fail
              clear z9
              obtain ⟨hDB, hmb, -, h60, -, hi, hlt⟩ := HNV.out
              clear hcs0 hcs1 hwq
              cases cut
              · have HSL := hid HD.out.1
                go_upto_region 36 with (
                  go_at_call 7
                  refine (t_app H9.out.1.dk (by omega) ad cd data HSL.out (by have := HNU.out; omega)).mono ?_
                  rintro e w10 ⟨rfl, t10, hd10, hg10⟩
                  have hx10 := chg_kept H9.out.2.1 H9.out.1.dk.dk hg10
                  obtain ⟨-, -, x9⟩ := chg_cells hx10 (Below.refl _ w10)
                  have HX10 := hid hx10
                  have H10 := hid (H9.out.1.goes hg10 hd10)
                  have HR10 := hid (ownsRow_kept H9.out.2.2 hg10.kp (fun k0 e0 => by obtain ⟨cur, hc⟩ := owns_typed H9.out.2.2 e0; exact H9.out.1.dk.dk.notRow (by decide) hc))
                  clear hd10 hg10 hx10)
                clear H9 x0 x1 x2
                by_cases hk2 : data.length = 0
                · have hcc : addC cs data = cs := by unfold addC; rw [if_pos hk2]
                  have hk3 : (data.length : Int) = 0 := by omega
                  have HN := hid (show TS wr w10 d t10 base cs (4 + ((i + 1 : Nat) : Int)) (8 + 2 * (i + 1)) (.slice (some ⟨br, 0, none⟩) (q + 1) cr) vs ∧ peakC base cs ≤ base.length + sumC xs (i + 1) ∧ cs.length = q ∧ q ≤ i + 1 from
                    ⟨by have h := H10.out; rw [hcc] at h; exact ⟨by rw [show (4 : Int) + ((i + 1 : Nat) : Int) = 4 + (i : Int) + 1 by omega]; exact h.1, h.2⟩, by have := HNU.out; omega, HQC.out, by have := HNU.out; omega⟩)
                  clear H10 HR10 HNU
                  go_wp2
                  clear x9
                  go_roundw
                  case rel => first | exact ⟨i + 1, q, cs, t10, _, cr, vs, by omega, rfl, by go_num, HN⟩ | ((repeat apply Exists.intro); exact ⟨⟨i + 1, q, cs, t10, _, cr, vs, by omega, rfl, by go_num, HN⟩, rfl⟩)
                  case measure => simp [intOf]; omega
                · have hk3 : ¬ (data.length : Int) = 0 := by omega
                  have hcc : addC cs data = cs ++ [.inl data] := by unfold addC; rw [if_neg hk2]
                  have hz10 := H10.out.1.hb.size
                  go_upto_region 38 with (
                    at_builtin
                    refine wpList_append_rf _ rfl (.tmp 158) (.tmp 159) 35 37 _ 2 2 rfl Try.underlying35 Try.info37 rfl (by omega) w10.heap.size (.slice none 0 0) 0 [] rfl (owns_nil _ _ _ _) (.slice aw m cw) m (cellsR (rowC base cs)) rfl (rf_of_owns HR10.out (cellsR_one _)) (by omega) (by unfold maxLen; omega) (Nat.le_refl _) ?_
                    intro ao2 c2 w11 hown hgr hob
                    rw [Nat.zero_add, List.nil_append] at hown
                    rw [Nat.zero_add]
                    have hb11 : Below w10.heap.size w10 w11 := (Below.refl _ _).grown hgr.out (Nat.le_refl _) (fun k e => by cases e)
                    have H11 := hid (And.intro hb11 hown.out)
                    clear hown hgr hob hb11)
                  have hlc : (data.length : Int) ≤ 200000 := by omega
                  go_wp2_with fail
                  go_loopw [18, 20] (fun nv ix wz => ∃ (k : Nat) (ao : Option Addr) (c : Nat), k ≤ data.length ∧ nv = .slice ao (m + k) c ∧ ix = .int .i64 k ∧ Hid (Below w10.heap.size w10 wz ∧ wz.ownsRow w10.heap.size 37 2 (.slice ao (m + k) c) (m + k) (cellsR (growR (rowC base cs) data k)))) (fun _ ix _ => data.length - (intOf ix).toNat)
                  case atStart => exact ⟨0, ao2, c2, Nat.zero_le _, rfl, rfl, hid ⟨H11.out.1, by rw [growR_zero]; exact H11.out.2⟩⟩
                  case round =>
                    clear x9 H11
                    rename World => wz
                    obtain ⟨k, ao4, c4, hk, rfl, rfl, hR⟩ := hrel
                    obtain ⟨x0, x1, x2⟩ := chg_cells HX10.out hR.out.1
                    clear x0 x1
                    by_cases hlk : k < data.length
                    · as_aux_lemma =>
                      have hlk' : (k : Int) < (data.length : Int) := by omega
                      obtain ⟨aq, cq, e, -, hcell⟩ := HSL.out
                      injection e with e1 e2 e3
                      subst e1 e3
                      clear e2
                      obtain ⟨b1, off1, rfl, hcl⟩ := hcell (List.ne_nil_of_length_pos (by omega))
                      obtain ⟨x, hx⟩ : ∃ x, data[k]? = some x := ⟨_, List.getElem?_eq_getElem hlk⟩
                      have y0 := ((H10.out.1.hb.trans (hR.out.1.mono H10.out.1.hb.size)).cell (World.block_lt_of_cell? _ _ (hcl k x hx))).trans (hcl k x hx)
                      have HX := hid hx
                      have HRL := hid HNU.out.2.2.2.2.2.1
                      have hzz := hR.out.1.size
                      clear hcell hcl hx HNU HNV
                      go_upto_region 40 with (
                        at_builtin
                        refine wpList_append_rf _ rfl (.tmp 168) (.tmp 175) 35 37 _ 2 2 rfl Try.underlying35 Try.info37 rfl (by omega) w10.heap.size (.slice ao4 (m + k) c4) (m + k) (cellsR (growR (rowC base cs) data k)) rfl (ownsRow_kept hR.out.2 (Kept.ofBelow (bel_al _ _)) (fun _ _ h => h)) (.slice (some ⟨wz.heap.size, 0, none⟩) 1 1) 1 [.int .u8 x, .bool true] rfl (rf_cell1 wz x true) (by omega) (by unfold maxLen; omega) (by first | omega | (simp; omega)) ?_
                        intro ao5 c5 w5 hown hgr hob
                        have HM5 := hid (show Below w10.heap.size w10 w5 ∧ w5.ownsRow w10.heap.size 37 2 (.slice ao5 (m + k + 1) c5) (m + k + 1) (cellsR (growR (rowC base cs) data (k + 1))) from ⟨own_below hR.out.1 hR.out.2 hgr.out, by rw [growR_snoc _ (by rw [HRL.out]; exact HMM.out) data k x HX.out]; exact hown.out⟩)
                        clear hown hgr hob)
                      clear y0 x2 HX hzz hR
                      go_wp2
                      go_roundw
                      case rel => first | exact ⟨k + 1, ao5, c5, by omega, rfl, by go_num, HM5⟩ | ((repeat apply Exists.intro); exact ⟨⟨k + 1, ao5, c5, by omega, rfl, by go_num, HM5⟩, rfl⟩)
                      case measure => simp [intOf]; omega
                    · obtain rfl : k = data.length := by omega
                      have hz11 : wr.heap.size ≤ wz.heap.size := Nat.le_trans hz10 hR.out.1.size
                      have H12 := hid (show Dk wr wz d t10 (oneD base (cs ++ [.inl data]) (4 + (i : Int) + 1)) (8 + 2 * i + 2) ∧ Rws wz wr.heap.size (.slice (some ⟨br, 0, none⟩) (q + 1) cr) vs (rowsC base cs) ∧ wz.ownsRow wr.heap.size 37 2 (.slice ao4 (m + data.length) c4) (rowC base (cs ++ [.inl data])).1.length (cellsR (rowC base (cs ++ [.inl data]))) from
                        ⟨by have h := H10.out.1.below hR.out.1; rw [hcc] at h; exact h, H10.out.2.below hR.out.1, own_mono (grow_row HMM.out hR.out.2) hz10⟩)
                      clear hR H10 HR10 hz10 hlk hk HX10
                      go_upto_region 24 with (
                        at_builtin
                        refine wpList_append_rf _ rfl (.tmp 177) (.tmp 179) 34 35 _ 1 24 rfl Try.underlying34 Try.info35 rfl (by omega) wr.heap.size (.slice (some ⟨br, 0, none⟩) (q + 1) cr) (q + 1) vs rfl (by have h := H12.out.2.1.hd; rw [rowsC_len, HQC.out] at h; exact ownsRow_kept h (Kept.ofBelow (bel_al _ _)) (fun _ _ h => h)) (.slice (some ⟨wz.heap.size, 0, none⟩) 1 1) 1 [.slice ao4 (m + data.length) c4] rfl (rf_head1 wz _ rfl) (by omega) (by unfold maxLen; omega) (by first | omega | (simp; omega)) ?_
                        intro ao3 c3' w12 hown hgr hob
                        have HN := hid (show TS wr w12 d t10 base (cs ++ [.inl data]) (4 + ((i + 1 : Nat) : Int)) (8 + 2 * (i + 1)) (.slice ao3 (q + 1 + 1) c3') (vs ++ [.slice ao4 (m + data.length) c4]) ∧ peakC base (cs ++ [.inl data]) ≤ base.length + sumC xs (i + 1) ∧ List.length (α := Chg) (cs ++ [.inl data]) = q + 1 ∧ q + 1 ≤ i + 1 from
                          ⟨by have h := ts_push H12.out.1 H12.out.2.1 H12.out.2.2 (by have h := hown.out; rw [← HQC.out] at h; exact h) hgr.out; rw [HQC.out] at h; rw [show (4 : Int) + ((i + 1 : Nat) : Int) = 4 + (i : Int) + 1 by omega]; exact h, by have h := peak_add base cs data; rw [hcc] at h; have := HNU.out; omega, by rw [List.length_append, HQC.out]; rfl, by have := HNU.out; omega⟩)
                        clear hown hgr hob)
                      clear H12 hz11 HNU x2
                      go_wp2
                      go_roundw
                      case rel => first | exact ⟨i + 1, q + 1, _, t10, _, c3', _, by omega, rfl, by go_num, HN⟩ | ((repeat apply Exists.intro); exact ⟨⟨i + 1, q + 1, _, t10, _, c3', _, by omega, rfl, by go_num, HN⟩, rfl⟩)
                      case measure => simp [intOf]; omega
              · obtain ⟨k, hkm, hke⟩ := mod_nat size (m + 1) (by omega)
                have hke' : size % ((m : Int) + 1) = (k : Int) := by have := hke; push_cast at this; exact this
                have HKE := hid hke'
                clear hke hke'
                have hm1 : (m : Int) ≤ 200000 := by omega
                go_upto_region 30 with (
                  go_at_call 10
                  refine (lround_any _ _ _ HSZ.out (by omega) (by omega)).mono ?_
                  rintro e w5 ⟨rfl, e5⟩
                  rw [e5, HKE.out]
                  clear e5)
                clear x0 x1 x2 HKE
                go_upto_region 32 with (
                  go_at_call 11
                  refine (t_cut H9.out.1.dk (by omega) k (by have := HMM.out; omega)).mono ?_
                  rintro e w10 ⟨rfl, t10, hd10, hg10⟩
                  have H10 := hid (H9.out.1.goes hg10 hd10)
                  have HR10 := hid (ownsRow_kept H9.out.2.2 hg10.kp (fun k0 e0 => by obtain ⟨cur, hc⟩ := owns_typed H9.out.2.2 e0; exact H9.out.1.dk.dk.notRow (by decide) hc))
                  clear hd10 hg10)
                clear H9
                by_cases hk2 : k = m
                · subst hk2
                  have hcc : cutC base cs k = cs := by unfold cutC; rw [if_neg (by have := HMM.out; omega)]
                  have HN := hid (show TS wr w10 d t10 base cs (4 + ((i + 1 : Nat) : Int)) (8 + 2 * (i + 1)) (.slice (some ⟨br, 0, none⟩) (q + 1) cr) vs ∧ peakC base cs ≤ base.length + sumC xs (i + 1) ∧ cs.length = q ∧ q ≤ i + 1 from
                    ⟨by have h := H10.out; rw [hcc] at h; exact ⟨by rw [show (4 : Int) + ((i + 1 : Nat) : Int) = 4 + (i : Int) + 1 by omega]; exact h.1, h.2⟩, by have := HNU.out; omega, HQC.out, by have := HNU.out; omega⟩)
                  clear H10 HR10 HNU
                  go_wp2
                  go_roundw
                  case rel => first | exact ⟨i + 1, q, cs, t10, _, cr, vs, by omega, rfl, by go_num, HN⟩ | ((repeat apply Exists.intro); exact ⟨⟨i + 1, q, cs, t10, _, cr, vs, by omega, rfl, by go_num, HN⟩, rfl⟩)
                  case measure => simp [intOf]; omega
                · have hk3 : k < m := by omega
                  have hk4 : (k : Int) < (m : Int) := by omega
                  have hk5 : ¬ (k : Int) = (m : Int) := by omega
                  have hcc : cutC base cs k = cs ++ [.inr k] := by unfold cutC; rw [if_pos (by have := HMM.out; omega)]
                  have hz10 := H10.out.1.hb.size
                  have hcw : (k : Int) ≤ (cw : Int) := by obtain ⟨_, _, e, h1, _⟩ := (rf_of_owns HR10.out (cellsR_one _)).shape; injection e with _ _ e; omega
                  obtain ⟨gw, hgw⟩ : ∃ gw, aw = some ⟨gw, 0, none⟩ := by
                    rcases HR10.out.2 with ⟨e, _⟩ | ⟨g, _, _, e, _⟩
                    · injection e with _ e _; omega
                    · injection e with e _ _; exact ⟨g, e⟩
                  subst hgw
                  go_upto_region 42 with (
                    at_builtin
                    refine wpList_append_rf _ rfl (.tmp 144) (.tmp 147) 35 37 _ 2 2 rfl Try.underlying35 Try.info37 rfl (by omega) wr.heap.size (.slice none 0 0) 0 [] rfl (owns_nil _ _ _ _) (.slice (some ⟨gw, 0, none⟩) k cw) k ((cellsR (rowC base cs)).take (k * 2)) rfl (own_first HR10.out (cellsR_one _) k (by omega)) (by omega) (by unfold maxLen; omega) hz10 ?_
                    intro ao2 c2 w11 hown hgr hob
                    rw [Nat.zero_add, List.nil_append] at hown
                    rw [Nat.zero_add]
                    have hb11 : Below w10.heap.size w10 w11 := (Below.refl _ _).grown hgr.out (Nat.le_refl _) (fun k e => by cases e)
                    have H11 := hid (show Dk wr w11 d t10 (oneD base (cs ++ [.inr k]) (4 + (i : Int) + 1)) (8 + 2 * i + 2) ∧ Rws w11 wr.heap.size (.slice (some ⟨br, 0, none⟩) (q + 1) cr) vs (rowsC base cs) ∧ w11.ownsRow wr.heap.size 37 2 (.slice ao2 k c2) (rowC base (cs ++ [.inr k])).1.length (cellsR (rowC base (cs ++ [.inr k]))) from
                      ⟨by have h := H10.out.1.below hb11; rw [hcc] at h; exact h, H10.out.2.below hb11, cut_row (by have := HMM.out; omega) hown.out⟩)
                    clear hown hgr hob hb11)
                  clear H10 HR10 hz10
                  have hz11 := H11.out.1.hb.size
                  go_upto_region 24 with (
                    at_builtin
                    refine wpList_append_rf _ rfl (.tmp 177) (.tmp 179) 34 35 _ 1 24 rfl Try.underlying34 Try.info35 rfl (by omega) wr.heap.size (.slice (some ⟨br, 0, none⟩) (q + 1) cr) (q + 1) vs rfl (by have h := H11.out.2.1.hd; rw [rowsC_len, HQC.out] at h; exact ownsRow_kept h (Kept.ofBelow (bel_al _ _)) (fun _ _ h => h)) (.slice (some ⟨w11.heap.size, 0, none⟩) 1 1) 1 [.slice ao2 k c2] rfl (rf_head1 w11 _ rfl) (by omega) (by unfold maxLen; omega) (by first | omega | (simp; omega)) ?_
                    intro ao3 c3' w12 hown hgr hob
                    have HN := hid (show TS wr w12 d t10 base (cs ++ [.inr k]) (4 + ((i + 1 : Nat) : Int)) (8 + 2 * (i + 1)) (.slice ao3 (q + 1 + 1) c3') (vs ++ [.slice ao2 k c2]) ∧ peakC base (cs ++ [.inr k]) ≤ base.length + sumC xs (i + 1) ∧ List.length (α := Chg) (cs ++ [.inr k]) = q + 1 ∧ q + 1 ≤ i + 1 from
                      ⟨by have h := ts_push H11.out.1 H11.out.2.1 H11.out.2.2 (by have h := hown.out; rw [← HQC.out] at h; exact h) hgr.out; rw [HQC.out] at h; rw [show (4 : Int) + ((i + 1 : Nat) : Int) = 4 + (i : Int) + 1 by omega]; exact h, by have h := peak_cut base cs k; rw [hcc] at h; have := HNU.out; omega, by rw [List.length_append, HQC.out]; rfl, by have := HNU.out; omega⟩)
                    clear hown hgr hob)
                  clear H11 hz11 HNU
                  go_wp2
                  go_roundw
                  case rel => first | exact ⟨i + 1, q + 1, _, t10, _, c3', _, by omega, rfl, by go_num, HN⟩ | ((repeat apply Exists.intro); exact ⟨⟨i + 1, q + 1, _, t10, _, c3', _, by omega, rfl, by go_num, HN⟩, rfl⟩)
                  case measure => simp [intOf]; omega
            · obtain rfl : i = xs.length := by omega
              have hqb : q ≤ 60 := by have := hT.out.2.2.2; omega
              have H9 := hid (And.intro hT.out.1 hT.out.2.2.1)
              have HPK := hid (show peakC base cs ≤ 200000 by have := hT.out.2.1; have := HM.out; omega)
              have hn9 : 8 + 2 * xs.length ≤ 1000 := by omega
              clear hlt hi hT HC HM
              obtain ⟨k0, hk0, hke⟩ := mod_nat done (q + 1) (by omega)
              have hke' : done % ((q : Int) + 1) = (k0 : Int) := by have := hke; push_cast at this; exact this
              have hfn : firstN done cs.length = k0 := by unfold firstN; rw [H9.out.2, hke']; simp
              have hwh : wholeF done ⟨1, base, cs⟩ = rowC base (cs.take k0) := by unfold wholeF; dsimp only; rw [hfn]
              have HKE := hid hke'
              have HWH := hid hwh
              clear hke hke' hfn hwh
              go_upto_region 44 with (
                go_at_call 12
                refine (t_pend H9.out.1.dk hn9).mono ?_
                rintro e w20 ⟨g20, c20, rfl, hg20, hp20, hb20⟩
                rw [H9.out.2] at hp20
                have H20 := hid (And.intro (H9.out.1.below hb20) (And.intro hp20 (And.intro hg20 hb20)))
                clear hg20 hp20 hb20)
              go_upto_region 45 with (
                go_at_call 13
                refine (t_crash H20.out.1.dk hn9 HL.out HI.out.2.1 HI.out.2.2 h300).mono ?_
                rintro e w21 ⟨bl, cl, Yl, t21, rfl, hl21, ho21, hbl, hyl, hd21, hk21⟩
                rw [HWH.out] at hl21 ho21 hd21
                have hdl := H9.out.1.dk.dk.lt d (.inl rfl)
                have hz20 := H20.out.2.2.2.size
                have hr21 := H20.out.1.rw.kept hk21 (fun _ _ _ he hc => H20.out.1.dk.dk.notRow he hc)
                have hp21 := hk21.cell H20.out.2.1 (fun e => by have := H9.out.1.dk.dk.lt g20 e; have := H20.out.2.2.1; omega)
                have H21 := hid (And.intro hl21 (And.intro ho21 (And.intro hd21 (And.intro hr21 (And.intro hp21 (And.intro (show d < bl by omega) (And.intro (show d < Yl by omega) (show d < g20 by have := H20.out.2.2.1; omega))))))))
                clear hl21 ho21 hbl hyl hd21 hk21 hdl hz20 hr21 hp21)
              clear H20
              go_upto_region 46 with (
                go_at_call 14
                refine (t_read H21.out.2.2.1 hn9).mono ?_
                rintro e w22 ⟨bz, cz, rfl, hz22, hcz, hk22⟩
                obtain ⟨q1, q2, q3, q4, q5, q6, q7, q8⟩ := H21.out
                have H22 := hid (And.intro (hk22.cell q1 (fun e => by dsimp only at e; omega)) (And.intro (show Own w22 Yl _ from (hk22.block Yl (hp_lt q2) (fun e => by omega)).trans q2) (And.intro hz22 (And.intro (q4.kept hk22 (fun _ _ _ he hc e => q3.dk.notRow he hc (.inl e))) (And.intro (hk22.cell q5 (fun e => by dsimp only at e; omega)) (q3.hb.trans (hk22.below q3.hb.size (fun k hk e => by have := q3.ge d (.inl rfl); omega))))))))
                clear hz22 hk22 q1 q2 q3 q4 q5 q6 q7 q8)
              have HQC := hid H9.out.2
              clear H21 H9
              rw [loseAll_len]
              obtain ⟨l1, l2, l3, l4, l5, l6⟩ := H22.out
              obtain ⟨v, -, hrow, br, cpr, e, -, -, y0, aw, cw, rfl⟩ := l4.at_ (rowsC_get base cs k0 (by have := HQC.out; omega))
              rw [rowsC_len, HQC.out] at e
              injection e with e1 e2 e3
              subst e1 e3
              have hrl := rowC_len base (cs.take k0)
              have hrp : (rowC base (cs.take k0)).1.length ≤ 200000 := Nat.le_trans (take_le_peak base cs k0) HPK.out
              generalize rowC base (cs.take k0) = r at *
              have HLO := hid (ln_cells HL.out l6)
              have H23 := hid (And.intro l2 (And.intro l3 (And.intro hrow (And.intro l6 hrl))))
              have hk1 : (k0 : Int) < ((q + 1 : Nat) : Int) := by omega
              have hq60 : (q : Int) ≤ 60 := by omega
              have hwq : wrap64 (q : Int) = (q : Int) := by unfold wrap64; omega
              obtain ⟨m, hm⟩ : ∃ m, m = r.1.length := ⟨_, rfl⟩
              rw [← hm] at l1 y0 hrp ⊢
              have HMM := hid hm
              clear H22 l2 l3 l4 l6 e2 hrow hrl hm hqb hn9 hk0 h20 h60 HB
              have HNW := hid h300
              clear h300 hc0 hc1 hc3
              go_upto_region 47 with (
                go_at_call 10
                refine (lround_any _ _ _ HI.out.2.1 (by omega) (by omega)).mono ?_
                rintro e w5 ⟨rfl, e5⟩
                rw [e5, HKE.out]
                clear e5)
              clear HKE y0 hk1
              go_upto_region 49 with fail
              go_upto_region 50 with fail
              rw [show ((m : Int) + 15) / 16 = ((secs m : Nat) : Int) by unfold secs; omega]
              obtain ⟨sc, hsc⟩ : ∃ sc, sc = secs m := ⟨_, rfl⟩
              rw [← hsc]
              have HSC := hid (show sc = secs m ∧ (0 < m → 0 < sc) ∧ sc ≤ 20000 from ⟨hsc, fun h => by rw [hsc]; unfold secs; omega, by rw [hsc]; unfold secs; omega⟩)
              have hm2 : (m : Int) ≤ 200000 := by omega
              clear hsc l5 hwq hq60 HQC HPK HWH hrp
              go_wp2_with fail
              go_loopw [27] (fun ix wz => ∃ (i : Nat), i ≤ m ∧ ix = .int .i64 i ∧ Hid (Below w22.heap.size w22 wz)) (fun ix _ => m - (intOf ix).toNat)
              case atStart => exact ⟨0, Nat.zero_le _, rfl, hid (Below.refl _ _)⟩
              case round =>
                rename World => wy
                obtain ⟨i, hi, rfl, hB⟩ := hrel
                have l1 := (hB.out.cell (World.block_lt_of_cell? _ _ l1)).trans l1
                by_cases hlt : i < m
                · as_aux_lemma =>
                  have hlt' : (i : Int) < (m : Int) := by omega
                  obtain ⟨o1, o2, o3, o4, o5⟩ := H23.out
                  obtain ⟨x, hx⟩ : ∃ x, r.1[i]? = some x := ⟨_, List.getElem?_eq_getElem (by have := HMM.out; omega)⟩
                  obtain ⟨nb, hnb⟩ : ∃ nb, r.2[i]? = some nb := ⟨_, List.getElem?_eq_getElem (by have := HMM.out; omega)⟩
                  obtain ⟨y, hy, hy0, hy1⟩ := loseAll_get r.2 i lost r.1 x hx
                  obtain ⟨Z, rfl, z1⟩ := o2 i y hy
                  have z1 := (hB.out.cell (World.block_lt_of_cell? _ _ z1)).trans z1
                  have z2 := own_cell o1 hx
                  have z2 := (hB.out.cell (World.block_lt_of_cell? _ _ z2)).trans z2
                  obtain ⟨cx, cb⟩ := cellsR_get r o5 i x nb hx hnb
                  obtain ⟨b, off, cap', e, -, -, hrc⟩ := (rf_of_owns o3 (cellsR_one _)).lits (by have := HMM.out; omega) (by omega)
                  have hoff : off = 0 := by
                    rcases o3.2 with ⟨e1, _⟩ | ⟨g, cap2, cur, e1, _⟩
                    · rw [e1] at e; cases e
                    · rw [e1] at e
                      injection e with e _ _
                      injection e with e
                      injection e with _ e
                      exact e.symm
                  subst hoff
                  injection e with e1 e2 e3
                  subst e1 e3
                  clear e2
                  have z3 := hrc _ _ cx
                  have z4 := hrc _ _ cb
                  rw [Nat.zero_add] at z3 z4
                  have z3 := (hB.out.cell (World.block_lt_of_cell? _ _ z3)).trans z3
                  have z4 := (hB.out.cell (World.block_lt_of_cell? _ _ z4)).trans z4
                  have HY := hid (show (nb = true ∧ lostAt m lost i → y = 0) ∧ (¬ (nb = true ∧ lostAt m lost i) → y = x) from by
                    rw [hnb, ← HMM.out] at hy0 hy1
                    exact ⟨fun h => hy0 ⟨by rw [h.1], h.2⟩, fun h => hy1 (fun h2 => h ⟨by have := h2.1; injection this, h2.2⟩)⟩)
                  have HSZ := hid (show 0 < sc from HSC.out.2.1 (by omega))
                  clear o1 o2 o3 o4 o5 hx hnb hy hy0 hy1 hrc cx cb H23
                  have hw0 : wrap64 (i : Int) = (i : Int) := by unfold wrap64; omega
                  go_wp2_with fail
                  go_loopw [28, 29] (fun wv ix wq => ∃ (k : Nat) (u : Int), k ≤ lost.length ∧ wv = .int .u8 u ∧ ix = .int .i64 k ∧ wq = wy ∧ Hid ((nb = true ∧ lostAt m (lost.take k) i → u = 0) ∧ (¬ (nb = true ∧ lostAt m (lost.take k) i) → u = x))) (fun _ ix _ => lost.length - (intOf ix).toNat)
                  case atStart => exact ⟨0, x, Nat.zero_le _, rfl, rfl, rfl, hid ⟨fun h => by obtain ⟨_, v, hv, _⟩ := h; simp at hv, fun _ => rfl⟩⟩
                  case round =>
                    obtain ⟨k, u, hk, rfl, rfl, hwq, hU⟩ := hrel
                    subst hwq
                    have hll : lost.length ≤ 300 := HNW.out
                    cases nb
                    · have huy : y = u := by rw [HY.out.2 (fun h => by cases h.1), hU.out.2 (fun h => by cases h.1)]
                      subst huy
                      clear hU HY
                      by_cases hkl : k < lost.length
                      · have hkl' : (k : Int) < (lost.length : Int) := by omega
                        go_wp2
                        go_quiet (fail)
                        go_wp2
                        clear hw0 z1 z2 z3 z4 l1
                        go_roundw
                        case rel => exact ⟨i + 1, by omega, by go_num, hid (below_drewN hB.out _)⟩
                        case measure => simp [intOf]; omega
                      · have hkl' : ¬ (k : Int) < (lost.length : Int) := by omega
                        go_wp2
                        go_quiet (fail)
                        go_wp2
                        clear hw0 z1 z2 z3 z4 l1
                        go_roundw
                        case rel => exact ⟨i + 1, by omega, by go_num, hid (below_drewN hB.out _)⟩
                        case measure => simp [intOf]; omega
                    · by_cases hkl : k < lost.length
                      · have hkl' : (k : Int) < (lost.length : Int) := by omega
                        obtain ⟨v, hv⟩ : ∃ v, lost[k]? = some v := ⟨_, List.getElem?_eq_getElem hkl⟩
                        obtain ⟨bq, oq, rfl, w0⟩ := HLO.out k v hv
                        have w0 := (hB.out.cell (World.block_lt_of_cell? _ _ w0)).trans w0
                        have hvi := HI.out.2.2 v (List.mem_of_getElem? hv)
                        obtain ⟨a, ha, hae⟩ := mod_nat v sc HSZ.out
                        have hls := lost_snoc (m := m) (i := i) hv
                        rw [← HSC.out.1, hae] at hls
                        simp only [Int.toNat_natCast] at hls
                        have HVI := hid (And.intro hvi hae)
                        have hsc2 : (sc : Int) ≤ 20000 := by have := HSC.out.2.2; omega
                        have hsc0 : (0 : Int) < (sc : Int) := by have := HSZ.out; omega
                        clear hv hvi hae
                        by_cases hai : a = i / 16
                        · have hai' : (a : Int) = (i : Int) / 16 := by omega
                          have HU2 := hid (show (true = true ∧ lostAt m (lost.take (k + 1)) i → (0 : Int) = 0) ∧ (¬ (true = true ∧ lostAt m (lost.take (k + 1)) i) → (0 : Int) = x) from ⟨fun _ => rfl, fun h => absurd ⟨rfl, hls.2 (.inr hai)⟩ h⟩)
                          clear hU hls
                          go_wp2_with (
                            go_at_call 10
                            refine (lround_any _ _ _ HVI.out.1 (by omega) (by omega)).mono ?_
                            rintro e w5 ⟨rfl, e5⟩
                            rw [e5, HVI.out.2]
                            clear e5)
                          clear w0 hw0
                          go_roundw
                          case rel => exact ⟨k + 1, 0, by omega, rfl, by go_num, (by first | rfl | trivial), hid ⟨fun _ => rfl, HU2.out.2⟩⟩
                          case measure => simp [intOf]; omega
                        · have hai' : ¬ (a : Int) = (i : Int) / 16 := by omega
                          have HU2 := hid (show (true = true ∧ lostAt m (lost.take (k + 1)) i → u = 0) ∧ (¬ (true = true ∧ lostAt m (lost.take (k + 1)) i) → u = x) from ⟨fun h => hU.out.1 ⟨rfl, (hls.1 h.2).resolve_right hai⟩, fun h => hU.out.2 (fun h2 => h ⟨rfl, hls.2 (.inl h2.2)⟩)⟩)
                          clear hU hls
                          go_wp2_with (
                            go_at_call 10
                            refine (lround_any _ _ _ HVI.out.1 (by omega) (by omega)).mono ?_
                            rintro e w5 ⟨rfl, e5⟩
                            rw [e5, HVI.out.2]
                            clear e5)
                          clear w0 hw0
                          go_roundw
                          case rel => exact ⟨k + 1, u, by omega, rfl, by go_num, (by first | rfl | trivial), HU2⟩
                          case measure => simp [intOf]; omega
                      · obtain rfl : k = lost.length := by omega
                        have huy : y = u := by
                          have h1 := HY.out
                          have h2 := hU.out
                          rw [List.take_length] at h2
                          by_cases hc : true = true ∧ lostAt m lost i
                          · rw [h1.1 hc, h2.1 hc]
                          · rw [h1.2 hc, h2.2 hc]
                        subst huy
                        clear hU HY
                        have hkl' : ¬ (lost.length : Int) < (lost.length : Int) := by omega
                        go_wp2
                        go_quiet (fail)
                        go_wp2
                        clear hw0 z1 z2 z3 z4 l1
                        go_roundw
                        case rel => exact ⟨i + 1, by omega, by go_num, hid (below_drewN hB.out _)⟩
                        case measure => simp [intOf]; omega
                · obtain rfl : i = m := by omega
                  have HBB := hid H23.out.2.2.2.1
                  clear H23
                  go_wp2_with (
                    go_at_call 4
                    refine (known_any _).mono ?_
                    rintro e w30 ⟨rfl, hb30⟩
                    have HK := hid hb30
                    clear hb30)
                  go_ret
                  exact ⟨rfl, HBB.out.trans ((bel_on hB.out HK.out).mono HBB.out.size)⟩

end Go.Proofs.Ytlmompdfombgeab
