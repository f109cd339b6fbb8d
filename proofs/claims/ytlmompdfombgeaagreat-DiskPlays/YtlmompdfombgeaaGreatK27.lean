import Derived.Test.YtlmompdfombgeaaGreatK26
namespace Go.Proofs.YtlmompdfombgeaaGreat
open Go.RowKit Go.MapKept

section
variable {w w' : World} {r : Nat} {R : Rt} {D : Dq} {n : Nat}

theorem Tryz.info3p : (Tryz.prog.info? 3).map (fun i => (i.zero, i.size, i.bytes)) = some (some (.int .i64 0), 1, 8) := by kernel_rfl
theorem Tryz.info9p : (Tryz.prog.info? 9).map (fun i => (i.zero, i.size, i.bytes)) = some (some (.string { data := #[] }), 1, 16) := by kernel_rfl

set_option maxRecDepth 100000 in
set_option maxHeartbeats 3200000 in
theorem pending_r (h : RdT w r R D) (hW : WD n D) (_hn : n ≤ 100000) :
    Calls Tryz.prog 42 #[.pointer (some ⟨r, 0, none⟩)] w fun e w' => ∃ v, e = .returned (.tuple #[.int .i64 D.turns.length, v]) ∧ w'.ownsRow w.heap.size 3 1 v D.files.length ((pendD D).map (Value.int .i64)) ∧ Below w.heap.size w w' := by
  obtain ⟨c0, c1, c2, c3, c4, c5, c6, c7, c8, c9, c10⟩ := h.cells
  obtain ⟨al, cl, hlv⟩ := own_shape h.lis
  obtain ⟨at', ct, htv⟩ := own_shape h.tur
  have HF := hid h.fat
  rw [hlv] at c3
  rw [htv] at c5
  have HL := hid hlv
  have H := hid h
  have hfl : D.files.length ≤ 1000 := by have h1 := hW.cnt; have h2 := hW.lim; omega
  clear h hlv htv c0 c1 c2 c4 c6 c7 c8 c9 c10
  go_enter Tryz.func42, Tryz.ntmps42
  go_wp2_with fail
  go_loopw [4, 5] (fun v4 ix wr => ∃ (k : Nat) (a : Option Addr) (c : Nat), k ≤ D.files.length ∧ v4 = .slice a k c ∧ ix = .int .i64 k ∧ Hid (wr.ownsRow w.heap.size 3 1 (.slice a k c) k ((D.files.take k).map fun f => Value.int .i64 (f.cs.length : Nat)) ∧ Below w.heap.size w wr)) (fun _ ix _ => D.files.length - (intOf ix).toNat)
  case atStart => exact ⟨0, none, 0, Nat.zero_le _, rfl, rfl, hid ⟨owns_nil _ _ _ _, Below.refl _ _⟩⟩
  case round =>
    obtain ⟨k, a, c, hk, rfl, rfl, HR⟩ := hrel
    have hbk := HR.out.2
    have c3' := (hbk.cell (World.block_lt_of_cell? _ _ c3)).trans c3
    have c5' := (hbk.cell (World.block_lt_of_cell? _ _ c5)).trans c5
    by_cases hlt : k < D.files.length
    · have i1 : (k : Int) < (D.files.length : Int) := by omega
      have hrf := HF.out
      rw [HL.out] at hrf
      obtain ⟨b, ofs, cap', e, -, -, hcell⟩ := Rf.elem (f := rfcs R) (fun _ => rfl) (by omega) hrf k hlt
      injection e with e1 e2 e3
      subst e1 e3
      clear e2 hrf
      have hmem := List.getElem_mem hlt
      have htk : (D.files.take (k + 1)).map (fun f => Value.int .i64 (f.cs.length : Nat)) = (D.files.take k).map (fun f => Value.int .i64 (f.cs.length : Nat)) ++ [Value.int .i64 (D.files[k].cs.length : Nat)] := by rw [List.take_succ_eq_append_getElem hlt, List.map_append]; rfl
      obtain ⟨x, hx⟩ : ∃ x, x = D.files[k] := ⟨_, rfl⟩
      rw [← hx] at hcell hmem htk
      obtain ⟨ap, cp, hpv⟩ := own_shape (H.out.pen x hmem)
      have hxn := (hW.chg x hmem).1
      have y2 := (show w.cell? ⟨b, ofs + k * 3 + 2, none⟩ = some (R.pv x.no) from hcell 2 _ rfl)
      rw [hpv] at y2
      replace y2 := (hbk.cell (World.block_lt_of_cell? _ _ y2)).trans y2
      have HTK := hid htk
      obtain ⟨q, hq⟩ : ∃ q, q = x.cs.length := ⟨_, rfl⟩
      rw [← hq] at y2 hxn HTK
      have HZ := hid (show w.heap.size ≤ (wr.alloc (.cells #[.int .i64 q] 3)).heap.size by have := HR.out.2.size; simp; omega)
      clear hcell hmem htk hx hbk hpv hq
      go_wp2_with (
        at_builtin
        refine wpList_append_rf _ rfl (.tmp 17) (.tmp 27) 64 3 _ 1 8 rfl Tryz.underlying64 Tryz.info3p rfl (by omega) w.heap.size (.slice a k c) k _ rfl (HR.out.1.alloc _) (.slice (some ⟨wr.heap.size, 0, none⟩) 1 1) 1 [.int .i64 q] rfl (rf_new wr 3 #[.int .i64 q] 1 rfl (by intro u hu; simp at hu; subst hu; rfl)) (by omega) (by unfold maxLen; omega) HZ.out ?_
        intro a6 c6 w6 hown hgr hob
        have H6 := hid (show w6.ownsRow w.heap.size 3 1 (.slice a6 (k + 1) c6) (k + 1) ((D.files.take (k + 1)).map fun f => Value.int .i64 (f.cs.length : Nat)) ∧ Below w.heap.size w w6 from ⟨by rw [HTK.out]; exact hown.out, grow_below HR.out.2 HR.out.1 hgr.out⟩)
        clear hown hgr hob)
      clear y2 c3' c5'
      go_roundw
      case rel => first | exact ⟨k + 1, a6, c6, by omega, rfl, by go_num, H6⟩ | ((repeat apply Exists.intro); exact ⟨⟨k + 1, a6, c6, by omega, rfl, by go_num, H6⟩, rfl⟩)
      case measure => simp [intOf]; omega
    · obtain rfl : D.files.length = k := by omega
      have HN := hid (show wr.ownsRow w.heap.size 3 1 (.slice a D.files.length c) D.files.length ((pendD D).map (Value.int .i64)) ∧ Below w.heap.size w wr by
        have h1 := HR.out
        rw [List.take_of_length_le (Nat.le_refl _)] at h1
        refine ⟨?_, h1.2⟩
        have e : (pendD D).map (Value.int .i64) = D.files.map (fun f => Value.int .i64 (f.cs.length : Nat)) := by simp [pendD]
        rw [e]
        exact h1.1)
      clear HR hbk
      go_wp2
      go_ret2
      exact ⟨_, rfl, HN.out⟩

set_option maxRecDepth 100000 in
set_option maxHeartbeats 3200000 in
theorem list_r (h : RdT w r R D) (hW : WD n D) (hn : n ≤ 100000) (hT : TOK D) (ho : D.off = false) :
    Calls Tryz.prog 41 #[.pointer (some ⟨r, 0, none⟩)] w fun e w' => ∃ v, e = .returned (.tuple #[v, .int .i64 0]) ∧ w'.ownsRow w.heap.size 9 1 v (skN D.names).length ((skN D.names).map Value.string) ∧ Below w.heap.size w w' := by
  obtain ⟨c0, c1, c2, c3, c4, c5, c6, c7, c8, c9, c10⟩ := h.cells
  rw [ho] at c10
  have hkeys := (h.ns.now (D := D)).keys hW.nam.k
  have HN := hid (now_r h hW hn hT)
  have hnl : (rnm R.sn D.turns D.turns.length).length ≤ 512 := h.nlen hW _
  rw [hkeys]
  obtain ⟨l, hl⟩ : ∃ l, l = rnm R.sn D.turns D.turns.length := ⟨_, rfl⟩
  rw [← hl] at HN hnl ⊢
  clear h hkeys hl c0 c1 c2 c3 c4 c5 c6 c7 c8 c9
  go_enter Tryz.func41, Tryz.ntmps41
  go_upto_region 7 with (
    go_at_call 100
    refine HN.out.mono ?_
    rintro e w2 ⟨v2, rfl, hl2, -, hb2⟩
    obtain ⟨a2, cp2, rfl, -, -⟩ := hl2.shape
    have H2 := hid (And.intro hl2 hb2)
    clear hl2 hb2)
  go_wp2_with fail
  go_loopw [4, 6] (fun v4 ix wr => ∃ (k : Nat) (a : Option Addr) (c : Nat), k ≤ l.length ∧ v4 = .slice a k c ∧ ix = .int .i64 k ∧ Hid (wr.ownsRow w2.heap.size 9 1 (.slice a k c) k ((l.take k).map fun x => Value.string x.1) ∧ Below w2.heap.size w2 wr)) (fun _ ix _ => l.length - (intOf ix).toNat)
  case atStart => exact ⟨0, none, 0, Nat.zero_le _, rfl, rfl, hid ⟨owns_nil _ _ _ _, Below.refl _ _⟩⟩
  case round =>
    obtain ⟨k, a, c, hk, rfl, rfl, HR⟩ := hrel
    by_cases hlt : k < l.length
    · have i1 : (k : Int) < (l.length : Int) := by omega
      obtain ⟨b, ofs, cap', e, -, -, hcell⟩ := Rf.elem (f := ncs) (fun _ => rfl) (by omega) H2.out.1 k hlt
      injection e with e1 e2 e3
      subst e1 e3
      clear e2
      have htk : (l.take (k + 1)).map (fun x => Value.string x.1) = (l.take k).map (fun x => Value.string x.1) ++ [Value.string l[k].1] := by rw [List.take_succ_eq_append_getElem hlt, List.map_append]; rfl
      obtain ⟨x, hx⟩ : ∃ x, x = l[k] := ⟨_, rfl⟩
      rw [← hx] at hcell htk
      obtain ⟨x1, x2⟩ := x
      have y0 := (show w2.cell? ⟨b, ofs + k * 2, none⟩ = some (.string x1) from hcell 0 _ rfl)
      replace y0 := (HR.out.2.cell (World.block_lt_of_cell? _ _ y0)).trans y0
      have HTK := hid htk
      have HZ := hid (show w2.heap.size ≤ (wr.alloc (.cells #[.string x1] 9)).heap.size by have := HR.out.2.size; simp; omega)
      clear hcell htk hx
      go_wp2_with (
        at_builtin
        refine wpList_append_rf _ rfl (.tmp 21) (.tmp 27) 61 9 _ 1 16 rfl Tryz.underlying61 Tryz.info9p rfl (by omega) w2.heap.size (.slice a k c) k _ rfl (HR.out.1.alloc _) (.slice (some ⟨wr.heap.size, 0, none⟩) 1 1) 1 [.string x1] rfl (rf_new wr 9 #[.string x1] 1 rfl (by intro u hu; simp at hu; subst hu; rfl)) (by omega) (by unfold maxLen; omega) HZ.out ?_
        intro a6 c6 w6 hown hgr hob
        have H6 := hid (show w6.ownsRow w2.heap.size 9 1 (.slice a6 (k + 1) c6) (k + 1) ((l.take (k + 1)).map fun x => Value.string x.1) ∧ Below w2.heap.size w2 w6 from ⟨by rw [HTK.out]; exact hown.out, grow_below HR.out.2 HR.out.1 hgr.out⟩)
        clear hown hgr hob)
      clear y0
      go_roundw
      case rel => first | exact ⟨k + 1, a6, c6, by omega, rfl, by go_num, H6⟩ | ((repeat apply Exists.intro); exact ⟨⟨k + 1, a6, c6, by omega, rfl, by go_num, H6⟩, rfl⟩)
      case measure => simp [intOf]; omega
    · obtain rfl : l.length = k := by omega
      have HQ := hid (show wr.ownsRow w.heap.size 9 1 (.slice a l.length c) l.length ((l.map Prod.fst).map Value.string) ∧ Below w.heap.size w wr by
        have h1 := HR.out
        rw [List.take_of_length_le (Nat.le_refl _)] at h1
        refine ⟨owns_mono ?_ H2.out.2.size, bel_on H2.out.2 h1.2⟩
        rw [List.map_map]
        exact h1.1)
      clear HR
      go_wp2
      go_ret2
      exact ⟨_, rfl, by rw [List.length_map]; exact HQ.out.1, HQ.out.2⟩

end

end Go.Proofs.YtlmompdfombgeaaGreat

namespace Go.Proofs.YtlmompdfombgeaaGreat
open Go.RowKit Go.MapKept

section
variable {w w' : World} {r : Nat} {R : Rt} {D : Dq} {n : Nat}

set_option maxRecDepth 100000 in
set_option maxHeartbeats 3200000 in
/-- lives, where no change of names is pending. -/
theorem lives_r (h : RdT w r R D) (ht : D.turns = []) (hl : R.sn.length ≤ 1000) (m : Int) :
    Calls Tryz.prog 128 #[.pointer (some ⟨r, 0, none⟩), .int .i64 m] w fun e w' => e = .returned (.bool (decide (m ∈ R.sn.map Prod.snd))) ∧ Below w.heap.size w w' := by
  obtain ⟨c0, c1, c2, c3, c4, c5, c6, c7, c8, c9, c10⟩ := h.cells
  obtain ⟨at', ct, htv⟩ := own_shape h.tur
  rw [ht] at htv
  rw [htv] at c5
  replace c5 := (show w.cell? ⟨r, 5, none⟩ = some (.slice at' 0 ct) from c5)
  have hnm := fun (W : World) (hb : Below w.heap.size w W) => names_any (h.below hb) 0 (Nat.zero_le _) (by rw [ht]; exact Nat.zero_le _) (fun i x hi => by omega) (fun i hi => by rw [Nat.le_zero.1 hi]; exact hl)
  have HN := hid (show ∀ W, Below w.heap.size w W → Calls Tryz.prog 113 #[.pointer (some ⟨r, 0, none⟩), .int .i64 0] W fun e w' => ∃ v', e = .returned v' ∧ Nl w' v' R.sn ∧ Below W.heap.size W w' from fun W hb => by
    refine (hnm W hb).mono ?_
    rintro e w1 ⟨v1, rfl, h1, -, h2⟩
    exact ⟨v1, rfl, h1, h2⟩)
  obtain ⟨b, hb⟩ : ∃ b, b = decide (m ∈ R.sn.map Prod.snd) := ⟨_, rfl⟩
  rw [← hb]
  have HBL := hid hb
  clear h htv hnm hb c0 c1 c2 c3 c4 c6 c7 c8 c9 c10
  obtain ⟨l, hl0⟩ : ∃ l, l = R.sn := ⟨_, rfl⟩
  rw [← hl0] at HN HBL hl
  clear hl0
  go_enter Tryz.func128, Tryz.ntmps128
  go_wp2_with fail
  go_loopw [5] (fun ix wr => ∃ (k : Nat), k ≤ 1 ∧ ix = .int .i64 k ∧ Hid (Below w.heap.size w wr ∧ (k = 1 → m ∉ l.map Prod.snd))) (fun ix _ => 1 - (intOf ix).toNat)
  case atStart => exact ⟨0, by omega, rfl, hid ⟨Below.refl _ _, fun e => by omega⟩⟩
  case round =>
    obtain ⟨k, hk, rfl, HR⟩ := hrel
    have c5' := (HR.out.1.cell (World.block_lt_of_cell? _ _ c5)).trans c5
    have hk2 : k = 0 ∨ k = 1 := by omega
    rcases hk2 with rfl | rfl
    · go_upto_region 5 with (
        go_at_call 113
        refine (HN.out _ HR.out.1).mono ?_
        rintro e w2 ⟨v2, rfl, hl2, hb2⟩
        obtain ⟨a2, cp2, rfl, -, -⟩ := hl2.shape
        have H2 := hid (And.intro hl2 (bel_on HR.out.1 hb2))
        clear hl2 hb2)
      clear c5'
      go_wp2_with fail
      go_loopw [7] (fun ix wq => ∃ (j : Nat), j ≤ l.length ∧ ix = .int .i64 j ∧ Hid (Below w2.heap.size w2 wq ∧ ∀ i x, i < j → l[i]? = some x → x.2 ≠ m)) (fun ix _ => l.length - (intOf ix).toNat)
      case atStart => exact ⟨0, Nat.zero_le _, rfl, hid ⟨Below.refl _ _, fun i x hi => by omega⟩⟩
      case round =>
        rename World => wq
        obtain ⟨j, hj, rfl, HQ⟩ := hrel
        by_cases hlt : j < l.length
        · have i1 : (j : Int) < (l.length : Int) := by omega
          obtain ⟨bb, ofs, cap', e, -, -, hcell⟩ := Rf.elem (f := ncs) (fun _ => rfl) (by omega) H2.out.1 j hlt
          injection e with e1 e2 e3
          subst e1 e3
          clear e2
          have hg := List.getElem?_eq_getElem hlt
          obtain ⟨x, hx⟩ : ∃ x, x = l[j] := ⟨_, rfl⟩
          rw [← hx] at hcell hg
          obtain ⟨x1, x2⟩ := x
          have y1 := (show w2.cell? ⟨bb, ofs + j * 2 + 1, none⟩ = some (.int .i64 x2) from hcell 1 _ rfl)
          replace y1 := (HQ.out.1.cell (World.block_lt_of_cell? _ _ y1)).trans y1
          have HG := hid hg
          clear hcell hg hx
          by_cases hm : x2 = m
          · have hbt : b = true := by
              rw [HBL.out]
              simp
              exact ⟨x1, by rw [← hm]; exact List.mem_of_getElem? HG.out⟩
            have HT := hid hbt
            clear hbt
            subst hm
            go_wp2
            go_ret
            exact ⟨by rw [HT.out]; rfl, bel_on H2.out.2 HQ.out.1⟩
          · have HN2 := hid (show ∀ i x, i < j + 1 → l[i]? = some x → x.2 ≠ m from fun i x hi hx => by
              by_cases e : i = j
              · subst e
                rw [HG.out] at hx
                injection hx with hx
                subst hx
                exact hm
              · exact HQ.out.2 i x (by omega) hx)
            have HB := hid HQ.out.1
            clear HQ
            go_wp2
            clear y1
            go_roundw
            case rel => first | exact ⟨j + 1, by omega, by go_num, hid ⟨HB.out, HN2.out⟩⟩ | ((repeat apply Exists.intro); exact ⟨⟨j + 1, by omega, by go_num, hid ⟨HB.out, HN2.out⟩⟩, rfl⟩)
            case measure => simp [intOf]; omega
        · have HZ := hid (show Below w.heap.size w wq ∧ m ∉ l.map Prod.snd from ⟨bel_on H2.out.2 HQ.out.1, fun hm => by
            obtain ⟨x, hx, e⟩ := List.mem_map.1 hm
            obtain ⟨i, hi⟩ := List.mem_iff_getElem?.1 hx
            exact HQ.out.2 i x (by have := (List.getElem?_eq_some_iff.1 hi).1; omega) hi e⟩)
          clear HQ
          go_wp2
          go_roundw
          case rel => first | exact ⟨1, by omega, by go_num, hid ⟨HZ.out.1, fun _ => HZ.out.2⟩⟩ | ((repeat apply Exists.intro); exact ⟨⟨1, by omega, by go_num, hid ⟨HZ.out.1, fun _ => HZ.out.2⟩⟩, rfl⟩)
          case measure => simp [intOf]
    · have hbf : b = false := by rw [HBL.out]; simpa using HR.out.2 rfl
      have HT := hid hbf
      clear hbf
      go_wp2
      go_ret
      exact ⟨by rw [HT.out]; rfl, HR.out.1⟩

end

end Go.Proofs.YtlmompdfombgeaaGreat

namespace Go.Proofs.YtlmompdfombgeaaGreat
open Go.RowKit Go.MapKept

section
variable {w w' : World} {r : Nat} {R : Rt} {D : Dq} {n : Nat}

/-- The same names, changes of names and plan. -/
def SmR (R R' : Rt) : Prop := R'.nv = R.nv ∧ R'.tv = R.tv ∧ R'.sv = R.sv ∧ R'.rv = R.rv

theorem SmR.trans {R R1 R2 : Rt} (h : SmR R R1) (h2 : SmR R1 R2) : SmR R R2 := ⟨h2.1.trans h.1, h2.2.1.trans h.2.1, h2.2.2.1.trans h.2.2.1, h2.2.2.2.trans h.2.2.2⟩

/-- Only some files are left, in a row of their own. -/
theorem RdT.filt (h : RdT w r R D) (fs : List Fi) (hsub : ∀ f ∈ fs, f ∈ D.files) {v' : Value} (hd : w'.heap[r]? = some (.cells #[.int .i64 D.room, .int .i64 D.limit, .int .i64 D.made, v', R.nv, R.tv, R.sv, R.rv, .int .i64 D.st, .int .i64 D.rd, .bool D.off] 58 (0, 0)))
    (hown : w'.ownsRow 0 141 3 v' fs.length (fs.flatMap (rfcs R))) (hk : Kept (fun q => q = r) w w') (hnb : ∀ q, v'.ownBlock = some q → w.heap.size ≤ q) :
    ∃ R', RGoes r w R D w' R' { D with files := fs } ∧ R'.sn = R.sn ∧ SmR R R' := by
  have hro : ∀ k, R.ro k → ¬ k = r := fun k e e2 => h.r1 (e2 ▸ e)
  obtain ⟨o1, o2, o3, o4, o5⟩ := h.ros hk hro
  refine ⟨{ R with lv := v', wo := fun k => R.wo k ∨ v'.ownBlock = some k }, ⟨⟨hd, hown, o1, h.ns, ?_, fun f hf => o2 f (hsub f hf), ?_, fun f hf => h.pfs f (hsub f hf), fun f hf => o3 f (hsub f hf), fun f hf g hg => h.dis f (hsub f hf) g (hsub g hg), o4, o5, fun k e => .inr e, h.fn, fun k e => .inl (h.fu k e), h.f1, h.f2, fun f hf => h.fb f (hsub f hf), fun f hf k e => .inl (h.fp f (hsub f hf) k e), fun f hf => h.fd f (hsub f hf), ?_, h.r1, ?_, ?_⟩, ?_, ?_⟩, rfl, rfl, rfl, rfl, rfl⟩
  · exact ownsRow_kept h.tur hk fun k e e2 => h.r2 (e2 ▸ h.fu k e)
  · intro f hf
    exact ownsRow_kept (h.pen f (hsub f hf)) hk fun k e e2 => h.r2 (e2 ▸ h.fp f (hsub f hf) k e)
  · rintro k e (e2 | e2)
    · exact h.ap k e e2
    · have := h.lt k (.inl e)
      have := hnb k e2
      omega
  · rintro (e2 | e2)
    · exact h.r2 e2
    · have := hnb r e2
      have := hp_lt h.disk
      omega
  · rintro k (e | e | e)
    · exact Nat.lt_of_lt_of_le (h.lt k (.inl e)) hk.size
    · exact Nat.lt_of_lt_of_le (h.lt k (.inr e)) hk.size
    · exact (hown.lt k e).2
  · exact hk.mono fun k _ e => .inl e
  · rintro k (e | e | e | e)
    · exact .inl (.inl e)
    · exact .inl (.inr (.inl e))
    · exact .inl (.inr (.inr e))
    · exact .inr (hnb k e)

theorem liveF_succ (l : List (ByteArray × Int)) (fs : List Fi) (k : Nat) (h : k < fs.length) : liveF l (fs.take (k + 1)) = if fs[k].no ∈ l.map Prod.snd then liveF l (fs.take k) ++ [fs[k]] else liveF l (fs.take k) := by
  unfold liveF
  rw [List.take_succ_eq_append_getElem h, List.filter_append]
  by_cases hm : fs[k].no ∈ l.map Prod.snd
  · rw [if_pos hm]; simp [hm]
  · rw [if_neg hm]; simp [hm]

theorem Tryz.info141 : (Tryz.prog.info? 141).map (fun i => (i.zero, i.size, i.bytes)) = some (some (.agg #[.int .i64 0, .slice none 0 0, .slice none 0 0]), 3, 56) := by kernel_rfl

set_option maxRecDepth 100000 in
set_option maxHeartbeats 3200000 in
/-- forget, where no change of names is pending. -/
theorem forget_r (h : RdT w r R D) (ht : D.turns = []) (hl : R.sn.length ≤ 1000) (hfl : D.files.length ≤ 1000) :
    Calls Tryz.prog 107 #[.pointer (some ⟨r, 0, none⟩)] w fun e w' => e = .returned (.tuple #[]) ∧ (∃ R', RGoes r w R D w' R' { D with files := liveF R.sn D.files } ∧ R'.sn = R.sn ∧ SmR R R') ∧ Kept (fun k => k = r) w w' := by
  obtain ⟨c0, c1, c2, c3, c4, c5, c6, c7, c8, c9, c10⟩ := h.cells
  obtain ⟨al, cl, hlv⟩ := own_shape h.lis
  have HF := hid h.fat
  rw [hlv] at c3
  have HL := hid hlv
  have H := hid h
  have HV := hid (fun (W : World) (hb : Below w.heap.size w W) (m : Int) => lives_r (h.below hb) ht hl m)
  clear h hlv c0 c1 c2 c4 c5 c6 c7 c8 c9 c10
  go_enter Tryz.func107, Tryz.ntmps107
  go_wp2_with fail
  go_loopw [2, 3] (fun v2 ix wr => ∃ (k q : Nat) (a : Option Addr) (c : Nat), k ≤ D.files.length ∧ v2 = .slice a q c ∧ ix = .int .i64 k ∧ Hid (wr.ownsRow w.heap.size 141 3 (.slice a q c) q ((liveF R.sn (D.files.take k)).flatMap (rfcs R)) ∧ q = (liveF R.sn (D.files.take k)).length ∧ Below w.heap.size w wr)) (fun _ ix _ => D.files.length - (intOf ix).toNat)
  case atStart => exact ⟨0, 0, none, 0, Nat.zero_le _, rfl, rfl, hid ⟨owns_nil _ _ _ _, rfl, Below.refl _ _⟩⟩
  case round =>
    obtain ⟨k, q, a, c, hk, rfl, rfl, HR⟩ := hrel
    have hbk := HR.out.2.2
    have c3' := (hbk.cell (World.block_lt_of_cell? _ _ c3)).trans c3
    have hql : q ≤ 1000 := by have h1 := HR.out.2.1; have h2 : (liveF R.sn (D.files.take k)).length ≤ (D.files.take k).length := List.length_filter_le _ _; have h3 : (D.files.take k).length ≤ D.files.length := by rw [List.length_take]; omega
                              omega
    by_cases hlt : k < D.files.length
    · have i1 : (k : Int) < (D.files.length : Int) := by omega
      have hrf := HF.out
      rw [HL.out] at hrf
      obtain ⟨b, ofs, cap', e, -, -, hcell⟩ := Rf.elem (f := rfcs R) (fun _ => rfl) (by omega) hrf k hlt
      injection e with e1 e2 e3
      subst e1 e3
      clear e2 hrf
      have hls := liveF_succ R.sn D.files k hlt
      have hmem := List.getElem_mem hlt
      obtain ⟨x, hx⟩ : ∃ x, x = D.files[k] := ⟨_, rfl⟩
      rw [← hx] at hcell hls hmem
      obtain ⟨abv, cbv, hbv, -, -⟩ := (H.out.saf x hmem).1
      obtain ⟨apv, cpv, hpv⟩ := own_shape (H.out.pen x hmem)
      have HY := hid (show ∀ W, Below w.heap.size w W → W.cell? ⟨b, ofs + k * 3, none⟩ = some (.int .i64 x.no) ∧ W.cell? ⟨b, ofs + k * 3 + 1, none⟩ = some (.slice abv x.safe.length cbv) ∧ W.cell? ⟨b, ofs + k * 3 + 2, none⟩ = some (.slice apv x.cs.length cpv) ∧ W.cell? ⟨r, 3, none⟩ = some (.slice (some ⟨b, ofs, none⟩) D.files.length cl) from fun W hb => by
        have y0 := (show w.cell? ⟨b, ofs + k * 3, none⟩ = some (.int .i64 x.no) from hcell 0 _ rfl)
        have y1 := (show w.cell? ⟨b, ofs + k * 3 + 1, none⟩ = some (R.bv x.no) from hcell 1 _ rfl)
        have y2 := (show w.cell? ⟨b, ofs + k * 3 + 2, none⟩ = some (R.pv x.no) from hcell 2 _ rfl)
        rw [hbv] at y1
        rw [hpv] at y2
        exact ⟨(hb.cell (World.block_lt_of_cell? _ _ y0)).trans y0, (hb.cell (World.block_lt_of_cell? _ _ y1)).trans y1, (hb.cell (World.block_lt_of_cell? _ _ y2)).trans y2, (hb.cell (World.block_lt_of_cell? _ _ c3)).trans c3⟩)
      obtain ⟨y0, y1, y2, -⟩ := HY.out _ hbk
      have HFX := hid (show rfcs R x = [.int .i64 x.no, .slice abv x.safe.length cbv, .slice apv x.cs.length cpv] by simp only [rfcs, hbv, hpv])
      have HVX := hid (HV.out wr hbk x.no)
      by_cases hm : x.no ∈ R.sn.map Prod.snd
      · rw [if_pos hm] at hls
        have hvx := HVX.out
        rw [show decide (x.no ∈ R.sn.map Prod.snd) = true from decide_eq_true hm] at hvx
        have HVT := hid hvx
        have HLS := hid hls
        clear hcell hls hmem hx hbk hbv hpv hvx hm HVX
        go_upto_region 5 with (
          go_at_call 128
          refine HVT.out.mono ?_
          rintro e w1 ⟨rfl, hb1⟩
          clear y0 y1 y2 c3'
          have hb2 := bel_on HR.out.2.2 hb1
          obtain ⟨y0, y1, y2, c3'⟩ := HY.out _ hb2
          have H1 := hid (And.intro hb2 (ownsRow_kept HR.out.1 (Kept.ofBelow hb1) (fun _ _ e => e)))
          clear hb1 hb2)
        have HZ := hid (show w.heap.size ≤ (w1.alloc (.cells #[.int .i64 x.no, .slice abv x.safe.length cbv, .slice apv x.cs.length cpv] 141)).heap.size by have := H1.out.1.size; simp; omega)
        go_wp2_with (
          at_builtin
          refine wpList_append_rf _ rfl (.tmp 23) (.tmp 31) 54 141 _ 3 56 rfl Tryz.underlying54 Tryz.info141 rfl (by omega) w.heap.size (.slice a q c) q _ rfl (H1.out.2.alloc _) (.slice (some ⟨w1.heap.size, 0, none⟩) 1 1) 1 [.int .i64 x.no, .slice abv x.safe.length cbv, .slice apv x.cs.length cpv] rfl (rf_new w1 141 #[.int .i64 x.no, .slice abv x.safe.length cbv, .slice apv x.cs.length cpv] 3 rfl (by intro u hu; simp at hu; rcases hu with rfl | rfl | rfl <;> rfl)) (by omega) (by unfold maxLen; omega) HZ.out ?_
          intro a6 c6 w6 hown hgr hob
          have H6 := hid (show w6.ownsRow w.heap.size 141 3 (.slice a6 (q + 1) c6) (q + 1) ((liveF R.sn (D.files.take (k + 1))).flatMap (rfcs R)) ∧ q + 1 = (liveF R.sn (D.files.take (k + 1))).length ∧ Below w.heap.size w w6 from ⟨by rw [HLS.out, List.flatMap_append]; simp only [List.flatMap_cons, List.flatMap_nil, List.append_nil]; rw [HFX.out]; exact hown.out, by rw [HLS.out, List.length_append, HR.out.2.1]; rfl, grow_below H1.out.1 H1.out.2 hgr.out⟩)
          clear hown hgr hob)
        clear y0 y1 y2 c3'
        go_roundw
        case rel => first | exact ⟨k + 1, q + 1, a6, c6, by omega, rfl, by go_num, H6⟩ | ((repeat apply Exists.intro); exact ⟨⟨k + 1, q + 1, a6, c6, by omega, rfl, by go_num, H6⟩, rfl⟩)
        case measure => simp [intOf]; omega
      · rw [if_neg hm] at hls
        have hvx := HVX.out
        rw [show decide (x.no ∈ R.sn.map Prod.snd) = false from decide_eq_false hm] at hvx
        have HVT := hid hvx
        have HLS := hid hls
        clear hcell hls hmem hx hbk hbv hpv hvx hm HVX
        go_wp2_with (
          go_at_call 128
          refine HVT.out.mono ?_
          rintro e w1 ⟨rfl, hb1⟩
          have H6 := hid (show w1.ownsRow w.heap.size 141 3 (.slice a q c) q ((liveF R.sn (D.files.take (k + 1))).flatMap (rfcs R)) ∧ q = (liveF R.sn (D.files.take (k + 1))).length ∧ Below w.heap.size w w1 from ⟨by rw [HLS.out]; exact ownsRow_kept HR.out.1 (Kept.ofBelow hb1) (fun _ _ e => e), by rw [HLS.out]; exact HR.out.2.1, bel_on HR.out.2.2 hb1⟩)
          clear hb1)
        clear y0 y1 y2 c3'
        go_roundw
        case rel => first | exact ⟨k + 1, q, a, c, by omega, rfl, by go_num, H6⟩ | ((repeat apply Exists.intro); exact ⟨⟨k + 1, q, a, c, by omega, rfl, by go_num, H6⟩, rfl⟩)
        case measure => simp [intOf]; omega
    · have hkl : D.files.take k = D.files := List.take_of_length_le (by omega)
      have HZ := hid HR.out
      rw [hkl] at HZ
      have hrw := H.out.below HZ.out.2.2
      have hfz := hrw.free
      have hd7 := set_block (i := 3) hrw.disk (.slice a q c)
      have hk7 : Kept (fun k => k = r) w (wr.setCell ⟨r, 3, none⟩ (.slice a q c)) := ((Kept.ofBelow HZ.out.2.2).mono (S' := fun k => k = r) (fun _ _ e => e.elim)).setCell (p := ⟨r, 3, none⟩) (fun _ => rfl) _
      have ho7 := ownsRow_kept (owns_mono HZ.out.1 (Nat.zero_le _)) ((Kept.refl (fun q => q = r) wr).setCell (p := ⟨r, 3, none⟩) (fun _ => rfl) (.slice a q c)) (fun j e e2 => by
        have := (HZ.out.1.lt j e).1
        have := hp_lt H.out.disk
        omega)
      have hR := H.out.filt (liveF R.sn D.files) (fun f hf => (mem_liveF.1 hf).1) hd7 (by rw [← HZ.out.2.1]; exact ho7) hk7 (fun j e => (HZ.out.1.lt j e).1)
      have HRR := hid (And.intro hR hk7)
      clear hR hd7 hk7 ho7 hrw hkl hbk
      go_wp2
      go_end0
      exact ⟨rfl, HRR.out⟩

end

end Go.Proofs.YtlmompdfombgeaaGreat

namespace Go.Proofs.YtlmompdfombgeaaGreat
open Go.RowKit Go.MapKept

section
variable {w w1 w' : World} {r : Nat} {R : Rt} {D : Dq} {n : Nat}

/-- Other safe names, and none pending. -/
theorem RdT.setN (h : RdT w r R D) (hb : Below w.heap.size w w1) {v' : Value} {sn l : List (ByteArray × Int)} (hnl : Nl w1 v' sn) (hns : Nms sn l) (hq : ∀ q, v'.ownBlock = some q → R.nv.ownBlock = some q ∨ (w.heap.size ≤ q ∧ q < w1.heap.size)) (hk : Kept (fun q => q = r) w1 w')
    (hd : w'.heap[r]? = some (.cells #[.int .i64 D.room, .int .i64 D.limit, .int .i64 D.made, R.lv, v', .slice none 0 0, R.sv, R.rv, .int .i64 D.st, .int .i64 D.rd, .bool D.off] 58 (0, 0))) :
    ∃ R', RGoes r w R D w' R' { D with safeN := l, turns := [] } ∧ R'.sn = sn ∧ R'.nv = v' ∧ R'.tv = .slice none 0 0 ∧ R'.sv = R.sv ∧ R'.rv = R.rv := by
  have hk2 : Kept (fun q => q = r) w w' := ((Kept.ofBelow hb).mono (S' := fun q => q = r) (fun _ _ e => e.elim)).trans hk (fun _ _ e => e)
  have hro : ∀ k, R.ro k → ¬ k = r := fun k e e2 => h.r1 (e2 ▸ e)
  obtain ⟨o1, o2, o3, o4, o5⟩ := h.ros hk2 hro
  have hrl := hp_lt h.disk
  have hqr : ∀ q, v'.ownBlock = some q → q ≠ r := fun q e e2 => by
    rcases hq q e with e3 | ⟨e3, _⟩
    · exact h.r1 (e2 ▸ h.fn q e3)
    · omega
  refine ⟨{ R with nv := v', tv := .slice none 0 0, sn := sn, ro := fun k => R.ro k ∨ v'.ownBlock = some k }, ⟨⟨hd, ?_, ?_, hns, owns_nil _ _ _ _, o2, ?_, h.pfs, o3, h.dis, o4, o5, h.fl, fun k e => .inr e, fun k e => by simp [Value.ownBlock] at e, fun k e => .inl (h.f1 k e), fun k e => .inl (h.f2 k e), fun f hf k e => .inl (h.fb f hf k e), h.fp, fun f hf p hp k e => .inl (h.fd f hf p hp k e), ?_, ?_, h.r2, ?_⟩, ?_, ?_⟩, rfl, rfl, rfl, rfl, rfl⟩
  · exact ownsRow_kept h.lis hk2 fun k e e2 => h.r2 (e2 ▸ h.fl k e)
  · exact Rf.kept hnl hk fun k e e2 => hqr k e e2
  · intro f hf
    exact ownsRow_kept (h.pen f hf) hk2 fun k e e2 => h.r2 (e2 ▸ h.fp f hf k e)
  · rintro k (e | e) e2
    · exact h.ap k e e2
    · rcases hq k e with e3 | ⟨e3, _⟩
      · exact h.ap k (h.fn k e3) e2
      · have := h.lt k (.inr e2)
        omega
  · rintro (e | e)
    · exact h.r1 e
    · exact hqr r e rfl
  · rintro k ((e | e) | e)
    · exact Nat.lt_of_lt_of_le (h.lt k (.inl e)) hk2.size
    · rcases hq k e with e3 | ⟨_, e3⟩
      · exact Nat.lt_of_lt_of_le (h.lt k (.inl (h.fn k e3))) hk2.size
      · exact Nat.lt_of_lt_of_le e3 hk.size
    · exact Nat.lt_of_lt_of_le (h.lt k (.inr e)) hk2.size
  · exact hk2.mono fun k _ e => .inl e
  · rintro k (e | (e | e) | e)
    · exact .inl (.inl e)
    · exact .inl (.inr (.inl e))
    · rcases hq k e with e3 | ⟨e3, _⟩
      · exact .inl (.inr (.inl (h.fn k e3)))
      · exact .inr e3
    · exact .inl (.inr (.inr e))

theorem liveF_perm' {l l' : List (ByteArray × Int)} (h : l.Perm l') (fs : List Fi) : liveF l fs = liveF l' fs := by
  unfold liveF
  congr 1
  funext f
  have := (h.map Prod.snd).mem_iff (a := f.no)
  simp only [this]

theorem cntS_WD' (h : WD n D) : WD (n + 1) (cntS D) :=
  ⟨h.room, h.lim, ⟨h.made.1, by have := h.made.2; simp [cntS]; omega⟩, h.asc, h.rng, h.cnt, h.hld, h.saf, by have := h.tur; simp [cntS]; omega, fun f hf => ⟨by have := (h.chg f hf).1; omega, (h.chg f hf).2⟩, ⟨by have := h.st.1; simp [cntS]; omega, by have := h.st.2; simp [cntS]; omega⟩, ⟨h.rd.1, by have := h.rd.2; simp [cntS]; omega⟩⟩

set_option maxRecDepth 100000 in
set_option maxHeartbeats 3200000 in
theorem syncN_r (h : RdT w r R D) (hW : WD n D) (hn : n ≤ 90000) (hT : TOK D) (hl : D.fs.length ≤ 300) :
    Calls Tryz.prog 56 #[.pointer (some ⟨r, 0, none⟩)] w fun e w' => e = .returned (.int .i64 (syncNP D).1) ∧ ∃ R', RGoes r w R D w' R' (syncNP D).2 := by
  obtain ⟨c0, c1, c2, c3, c4, c5, c6, c7, c8, c9, c10⟩ := h.cells
  have H := hid h
  clear c0 c1 c2 c3 c4 c5 c6 c7 c8 c9
  cases ho : D.off
  · rw [ho] at c10
    have HS := hid (stroke_r h hW (by omega) hl ho)
    by_cases hf : fe (fo D.fs (D.st + 1)) = 0
    · have hp : syncNP D = (0, settleD D.names (cntS D)) := by simp [syncNP, strokeP, pre0, ho, hf, syncNK]; rfl
      rw [hp]
      rw [hf] at HS
      have HNL := hid (h.nlen hW D.turns.length)
      have HNS := hid (h.ns.now (D := D))
      have hfl : D.files.length ≤ 1000 := by have h1 := hW.cnt; have h2 := hW.lim; omega
      clear h hp hf
      go_enter Tryz.func56, Tryz.ntmps56
      go_upto_region 8 with (
        go_at_call 104
        refine HS.out.mono ?_
        rintro e w2 ⟨rfl, hr2, hk2⟩
        have H2 := hid (And.intro hr2 hk2)
        clear hr2 hk2)
      have HNW := hid (now_r H2.out.1 (cntS_WD' hW) (by omega) (hT.same (D' := cntS D) rfl rfl))
      have hfz0 := H2.out.1.free
      go_upto_region 10 with (
        go_at_call 100
        refine HNW.out.mono ?_
        rintro e w3 ⟨v3, rfl, hl3, hq3, hb3⟩
        obtain ⟨a3, cp3, rfl, -, -⟩ := hl3.shape
        have hr3 := H2.out.1.below hb3
        obtain ⟨-, -, -, -, d4, d5, -, -, -, -, -⟩ := hr3.cells
        have hfz := hr3.free
        obtain ⟨at3, ct3, htv⟩ := own_shape hr3.tur
        obtain ⟨an3, cn3, hnv, -, -⟩ := hr3.nms.shape
        rw [hnv] at d4
        rw [htv] at d5
        have H3 := hid (And.intro hl3 (And.intro hq3 (And.intro hb3 hr3)))
        clear hl3 hq3 hb3 hr3 htv hnv)
      have hk4 : Kept (fun q => q = r) w3 ((w3.setCell ⟨r, 4, none⟩ (.slice a3 (rnm R.sn (cntS D).turns (cntS D).turns.length).length cp3)).setCell ⟨r, 5, none⟩ (.slice none 0 0)) := ((Kept.refl (fun q => q = r) w3).setCell (p := ⟨r, 4, none⟩) (fun _ => rfl) _).setCell (p := ⟨r, 5, none⟩) (fun _ => rfl) _
      have hd4 := set_block (i := 5) (set_block (i := 4) H3.out.2.2.2.disk (.slice a3 (rnm R.sn (cntS D).turns (cntS D).turns.length).length cp3)) (.slice none 0 0)
      have hg4 := H2.out.1.setN H3.out.2.2.1 H3.out.1 HNS.out H3.out.2.1 hk4 hd4
      refine cutG (fun W => ∃ R', RGoes r w2 R (cntS D) W R' { cntS D with safeN := D.names, turns := [] } ∧ R'.sn = rnm R.sn D.turns D.turns.length) (by obtain ⟨R4, h1, h2, -⟩ := hg4; exact ⟨R4, h1, h2⟩) ?_
      clear hk4 hd4 hg4 d4 d5 hfz hfz0 H3 HNW
      rintro W4 ⟨R4, hg4, hsn4⟩
      have H4 := hid (And.intro hg4 hsn4)
      have HFO := hid (forget_r hg4.rd rfl (by rw [hsn4]; have := HNL.out; omega) hfl)
      clear hg4 hsn4
      go_wp2_with (
        go_at_call 107
        refine HFO.out.mono ?_
        rintro e w5 ⟨rfl, ⟨R5, hg5, -⟩, -⟩
        have H5 := hid hg5
        clear hg5)
      go_ret
      refine ⟨rfl, R5, (RGoes.trans ⟨H2.out.1, H2.out.2.mono (fun _ _ e => .inl e), fun _ e => .inl e⟩ H4.out.1).trans ?_⟩
      have h5 := H5.out
      rw [H4.out.2, liveF_perm' HNS.out.p] at h5
      exact h5
    · have hp : syncNP D = (fe (fo D.fs (D.st + 1)), cntS D) := by simp [syncNP, strokeP, pre0, ho, hf]
      rw [hp]
      have hb0 : (fe (fo D.fs (D.st + 1)) == 0) = false := by simpa using hf
      clear h hp hf
      generalize fe (fo D.fs (D.st + 1)) = er at HS hb0 ⊢
      go_enter Tryz.func56, Tryz.ntmps56
      go_wp2_with (
        go_at_call 104
        refine HS.out.mono ?_
        rintro e w2 ⟨rfl, hr2, hk2⟩
        have H2 := hid (And.intro hr2 hk2)
        clear hr2 hk2)
      go_ret
      exact ⟨rfl, R, ⟨H2.out.1, H2.out.2.mono (fun _ _ e => .inl e), fun _ e => .inl e⟩⟩
  · rw [ho] at c10
    have hp : syncNP D = (11, D) := by simp [syncNP, strokeP, pre0, ho]
    rw [hp]
    clear h hp
    go_enter Tryz.func56, Tryz.ntmps56
    go_wp2
    go_ret
    exact ⟨rfl, R, RGoes.still H.out (Below.refl _ _)⟩

end

end Go.Proofs.YtlmompdfombgeaaGreat
