import Derived.Test.YtlmompdfombgeaaGreatK33
import Derived.Test.YtlmompdfombgeaaGreatK10
import Derived.Laws.StructEq
namespace Go.Proofs.YtlmompdfombgeaaGreat
open Go.RowKit Go.MapKept

theorem readP_same (D : Dq) (nm : ByteArray) : (readP D nm).2.2.files = D.files ∧ (readP D nm).2.2.turns = D.turns ∧ (readP D nm).2.2.safeN = D.safeN ∧ (readP D nm).2.2.fs = D.fs ∧ (readP D nm).2.2.fr = D.fr := by
  unfold readP
  split
  · exact ⟨rfl, rfl, rfl, rfl, rfl⟩
  · split
    · exact ⟨rfl, rfl, rfl, rfl, rfl⟩
    · exact ⟨rfl, rfl, rfl, rfl, rfl⟩

theorem tk_read {D : Dq} (h : TOK D) (nm : ByteArray) : Tk3 D (readP D nm).2.2 := by
  obtain ⟨h1, h2, h3, h4, h5⟩ := readP_same D nm
  exact ⟨h.same h2 h3, h4, h5⟩

theorem read_goes {w w' : World} {d : Nat} {t : Wt} {D : Dq} {nm : ByteArray} (h : DkT w' d t (readP D nm).2.2) (hk : Kept (fun k => k = d) w w') : Goes d w t D w' t (readP D nm).2.2 :=
  ⟨h, hk.mono (fun _ _ e => .inl e), fun k e => .inl (by unfold Dft at e ⊢; rw [(readP_same D nm).1] at e; exact e)⟩

theorem rread_goes {w w' : World} {r : Nat} {R : Rt} {D D' : Dq} (h : RdT w' r R D') (hk : Kept (fun k => k = r) w w') : RGoes r w R D w' R D' := ⟨h, hk.mono (fun _ _ e => .inl e), fun _ e => .inl e⟩

theorem nb_sl2 {w : World} {B : Nat} {v : Value} {bs : List Int} (h : Nb w B v bs) (hl : bs.length ≤ 100000000) : ∃ a c, v = .slice a bs.length c ∧ Sl w v bs ∧ ∀ k, v.ownBlock = some k → B ≤ k := by
  rcases h with ⟨rfl, rfl⟩ | ⟨Y, rfl, ho, hB⟩
  · exact ⟨none, 0, rfl, (sn_nil w).1, fun k e => by simp [Value.ownBlock] at e⟩
  · exact ⟨_, _, rfl, sl_of_owns (B := 0) (ho.owns (Nat.zero_le _) (by unfold maxLen; omega)), fun k e => by simp only [Value.ownBlock, Option.some.injEq] at e; omega⟩

theorem Sl.shape3 {w : World} {v : Value} {bs : List Int} (h : Sl w v bs) : ∃ a c, v = .slice a bs.length c ∧ True ∧ True := by
  obtain ⟨a, c, e, _⟩ := h
  exact ⟨a, c, e, trivial, trivial⟩

theorem read_len {n : Nat} {D : Dq} (hW : WD n D) (nm : ByteArray) : (readP D nm).1.length ≤ 4194304 := by
  unfold readP
  split
  · exact Nat.zero_le _
  · split
    · exact Nat.zero_le _
    · cases hl : D.look nm with
      | none => exact Nat.zero_le _
      | some f =>
        have h1 := hW.peak (look_mem hl).1
        have h2 := row_le_peak f.safe f.cs
        show (rowC f.safe f.cs).1.length ≤ 4194304
        unfold Fi.peak at h1
        omega

set_option maxRecDepth 100000 in
set_option maxHeartbeats 6400000 in
theorem st_Read {w0 w : World} {d r : Nat} {t : Wt} {R : Rt} {D : Dq} {n : Nat} (x : Sp) (p : SPre w0 w d r t R D n x) (hk : x.kind = 8) :
    Calls Tryz.prog 14 #[.pointer (some ⟨d, 0, none⟩), .pointer (some ⟨r, 0, none⟩), .agg #[.int .i64 x.kind, .string x.name, .string x.to, x.dv, .int .i64 x.n, x.sv, x.rv, .int .i64 x.pn, x.fv]] w (SPost w d r t R D n) := by
  obtain ⟨hx, hw0, hlo, hsm, hpr, hwd, hnn, htk, hf1, hf2⟩ := p
  obtain ⟨kind, name, tto, dv, data, nn, sv, gs, rv, gr, pn, fv, pk⟩ := x
  obtain ⟨-, -, hpn, hn1, hn2, hdt, hoct, hfs, -, hfr, -, hpk⟩ := hx
  obtain ⟨m1, m2, m3, m4, m5, m6, m7⟩ := hsm
  obtain ⟨a1, q1, e1, d1, d2⟩ := hdt.shape
  obtain ⟨a2, q2, e2, d3, d4⟩ := hfs.shape
  obtain ⟨a3, q3, e3, d5, d6⟩ := hfr.shape
  obtain ⟨a4, q4, e4, d7, d8⟩ := hpk.1.shape
  dsimp only at e1 e2 e3 e4 hn1 hn2 hk d1 d2 d3 d4 d5 d6 d7 d8 hdt hfs hfr hpk m1 m2 m3 m4 m5 m6 m7 hpn
  subst e1 e2 e3 e4
  dsimp only
  obtain rfl : kind = 8 := hk
  have hdt' : Rf w0 1 (.slice a1 data.length q1) data.length (B8 data) := by
    rw [← flat_u8]
    exact hdt
  have hsl0 := hdt'.sl
  have hw0z := hw0.size
  have hPl := hpr.lt
  have HX := hid (And.intro hpr (And.intro hw0 (And.intro hsl0 (And.intro hlo (And.intro hwd (And.intro htk (And.intro hf1 hf2)))))))
  have HPL := hid hPl
  clear hpr hw0 hsl0 hfs hfr hpk hdt hdt' hoct m7 hlo hwd htk hPl
  have hbx : Below w.heap.size w (w.alloc (.cells #[.int .i64 8, .string name, .string tto, .slice a1 data.length q1, .int .i64 nn, .slice a2 gs.length q2, .slice a3 gr.length q3, .int .i64 pn, .slice a4 pk.length q4] 43)) := (Below.refl _ _).alloc (Nat.le_refl _) _
  have HBX := hid hbx
  clear hbx
  obtain ⟨res, hres⟩ : ∃ res : Int, res = (readP D name).2.1 := ⟨_, rfl⟩
  have HRES := hid hres
  clear hres
  go_enter Tryz.func14, Tryz.ntmps14
  go_wp2_with (
    go_at_call 51
    refine (roomy_any (.slice a1 data.length q1) data _ ((HX.out.2.2.1.1.below HX.out.2.1).below HBX.out) (by omega)).mono ?_
    rintro e w1 ⟨rfl, ho1, hb1⟩
    have es := (show (w.alloc (.cells #[.int .i64 8, .string name, .string tto, .slice a1 data.length q1, .int .i64 nn, .slice a2 gs.length q2, .slice a3 gr.length q3, .int .i64 pn, .slice a4 pk.length q4] 43)).heap.size = w.heap.size + 1 from by simp)
    rw [es] at ho1 hb1 ⊢
    have hbw1 : Below w.heap.size w w1 := HBX.out.trans (hb1.mono (by omega))
    have x0 : w1.cell? ⟨w.heap.size, 0, none⟩ = some (.int .i64 8) := (hb1.cell (by simp)).trans (by simp [go_sem])
    have x1 : w1.cell? ⟨w.heap.size, 1, none⟩ = some (.string name) := (hb1.cell (by simp)).trans (by simp [go_sem])
    have x2 : w1.cell? ⟨w.heap.size, 2, none⟩ = some (.string tto) := (hb1.cell (by simp)).trans (by simp [go_sem])
    have x3 : w1.cell? ⟨w.heap.size, 3, none⟩ = some (.slice a1 data.length q1) := (hb1.cell (by simp)).trans (by simp [go_sem])
    have x4 : w1.cell? ⟨w.heap.size, 4, none⟩ = some (.int .i64 nn) := (hb1.cell (by simp)).trans (by simp [go_sem])
    have hz1 : w.heap.size + 1 < w1.heap.size := hp_lt ho1
    have H1 := hid (And.intro ho1 (And.intro hbw1 (HX.out.1.below hbw1)))
    clear ho1 hb1 es hbw1)
  have hbd1 : Below w1.heap.size w1 w1.drew := ⟨rfl, rfl, rfl, Nat.le_refl _, fun _ _ => rfl⟩
  have HPD := hid H1.out.2.2
  have HCX := hid (show ∀ W, Kept (Pft d r t R D) w1 W → W.cell? ⟨w.heap.size, 1, none⟩ = some (.string name) ∧ W.cell? ⟨w.heap.size, 2, none⟩ = some (.string tto) ∧ W.cell? ⟨w.heap.size, 3, none⟩ = some (.slice a1 data.length q1) ∧ W.cell? ⟨w.heap.size, 4, none⟩ = some (.int .i64 nn) from fun W hk => by
    have hn : ¬ Pft d r t R D w.heap.size := fun e => by have := HPL.out _ e; omega
    exact ⟨hk.cell x1 hn, hk.cell x2 hn, hk.cell x3 hn, hk.cell x4 hn⟩)
  have HK1 := hid (Kept.refl (Pft d r t R D) w1)
  have HSD := hid (show ∀ W, Kept (Pft d r t R D) w1 W → Sn W (.slice a1 data.length q1) data ∧ Own W (w.heap.size + 1) (rm data) from fun W hk => by
    have hb0 : Below w0.heap.size w0 W := (HX.out.2.1.trans (H1.out.2.1.mono hw0z)).trans (hk.below (Nat.le_trans hw0z H1.out.2.1.size) (fun k hk e => by have := HX.out.2.2.2.1 k e; omega))
    exact ⟨HX.out.2.2.1.1.below hb0 |> fun h => ⟨h, HX.out.2.2.1.2⟩, hp_kept H1.out.1 hk (fun e => by have := HPL.out _ e; omega)⟩)
  clear hbd1
  go_wp2_with (first
    | (go_at_call 15
       refine (read_dk HPD.out.a HX.out.2.2.2.2.1 (by omega) name hn1).mono ?_
       rintro e w2 ⟨v2, rfl, hv2, hd2, hk2'⟩
       have p2 := HPD.out.prog (read_goes hd2 hk2')
       have hk2 : Kept (Pft d r t R D) w1 w2 := HK1.out.trans p2.kp (fun _ _ e => e)
       obtain ⟨t1', t2', t3', t4'⟩ := HCX.out w2 hk2
       have hsl2 := nb_sl2 hv2 (Nat.le_trans (read_len HX.out.2.2.2.2.1 name) (by omega))
       obtain ⟨av2, cv2, rfl, hse2⟩ := hsl2
       have H2 := hid (And.intro p2 (And.intro hk2 hse2))
       clear hv2 hd2 hk2' p2 hk2 hse2)
    | (go_at_call 59
       refine (read_r H2.out.1.pr.b HX.out.2.2.2.2.1 (by omega) HX.out.2.2.2.2.2.1 HX.out.2.2.2.2.2.2.2 name hn1).mono ?_
       rintro e w3' ⟨v3, rfl, hs3, hr3, hk3'⟩
       obtain ⟨av3, cv3, rfl, -, -⟩ := hs3.shape3
       have p3 := H2.out.1.trans (H2.out.1.pr.doc (rread_goes hr3 hk3'))
       have hk3 : Kept (Pft d r t R D) w1 w3' := HK1.out.trans p3.kp (fun _ _ e => e)
       obtain ⟨u1', u2', u3', u4'⟩ := HCX.out w3' hk3
       have H3' := hid (And.intro p3 (And.intro hk3 (And.intro hs3 (H2.out.2.2.1.kept hk3' (fun k e e2 => by subst e2; have h1 := H2.out.2.2.2 k e; have h2 := HPL.out k (.inr (.inl rfl)); omega)))))
       clear hs3 hr3 hk3' p3 hk3)
    | (go_at_call 60
       refine (bytes_any _ _ (readP D name).1 (readP D name).1 w3' H3'.out.2.2.2 H3'.out.2.2.1 (by have := read_len HX.out.2.2.2.2.1 name; omega)).mono ?_
       rintro e w3 ⟨hdn, rfl⟩
       obtain ⟨md, hmd⟩ := hdn
       have hb3 : Below w3'.heap.size w3' w3 := by rw [hmd]; exact below_drewN (Below.refl _ _) md
       have p3 := H3'.out.1.trans (PG.still H3'.out.1.pr hb3)
       have hk3 : Kept (Pft d r t R D) w1 w3 := HK1.out.trans p3.kp (fun _ _ e => e)
       obtain ⟨u1', u2', u3', u4'⟩ := HCX.out w3 hk3
       have H3 := hid (And.intro p3 hk3)
       have hde : decide ((readP D name).1 = (readP D name).1) = true := by simp
       try rw [hde]
       clear hmd hb3 p3 hk3))
  have HS := hid (show PG d r w1 t R D w3 t R (readP D name).2.2 (readP D name).2.2 ∧ Kept (Pft d r t R D) w1 w3 from ⟨⟨H3.out.1.pr, H3.out.2, fun k e => H3.out.1.ft k e⟩, H3.out.2⟩)
  go_wp2_with (
    go_at_call 68
    refine (left_any (.slice a1 data.length q1) data (w.heap.size + 1) w3 (HSD.out w3 H3.out.2).1.1 (by omega) (HSD.out w3 H3.out.2).2).mono ?_
    rintro e w9 ⟨rfl, hdn⟩
    have H9 := hid hdn
    clear hdn)
  go_loopw [16] (fun i wr => ∃ (k : Nat) (bs : List Int), k ≤ data.length + 40 ∧ i = .int .i64 k ∧ bs.length = data.length + 40 ∧ Own wr (w.heap.size + 1) bs ∧ Hid (Kept (fun k => k = w.heap.size + 1) w3 wr)) (fun i _ => data.length + 40 - (intOf i).toNat)
  case atStart =>
    obtain ⟨m, rfl⟩ := H9.out
    exact ⟨0, rm data, Nat.zero_le _, by go_num, by simp [rm], (HSD.out w3 H3.out.2).2, hid ((Kept.refl _ _).drewN m)⟩
  case round =>
    obtain ⟨k, bs, hk9, rfl, hbs, ho9, HK⟩ := hrel
    by_cases hlt : k < data.length + 40
    · have cd := ho9.cell k bs[k] (by simp [hbs, hlt])
      have fz := free_of_block (o := k) ho9
      have i2 : (k : Int) < ((data.length + 40 : Nat) : Int) := by omega
      have i3 : (k : Int) < (data.length : Int) + 40 := by omega
      have HO := hid ho9
      clear ho9
      go_wp2
      go_roundw
      case rel => exact ⟨k + 1, bs.set k 99, by omega, by go_num, by simp [hbs], HO.out.set k 99, hid (HK.out.setCell (p := ⟨w.heap.size + 1, k, none⟩) (fun _ => rfl) _)⟩
      case measure => simp [intOf]; omega
    · have i2 : ¬ (k : Int) < ((data.length + 40 : Nat) : Int) := by omega
      have i3 : ¬ (k : Int) < (data.length : Int) + 40 := by omega
      have HO := hid ho9
      clear ho9
      go_wp2
      go_ret
      obtain ⟨k1, k2, k3⟩ := tk_read HX.out.2.2.2.2.2.1 name
      exact ⟨rfl, t, R, (readP D name).2.2, PG.wipe HX.out.1 H1.out.2.1 HS.out.1 HK.out (by omega) hz1, (HX.out.2.2.2.2.1.readP name).mono (by omega), k1, by rw [k2]; exact hf1, by rw [k3]; exact hf2⟩

end Go.Proofs.YtlmompdfombgeaaGreat

namespace Go.Proofs.YtlmompdfombgeaaGreat
open Go.RowKit Go.MapKept

/-- The marks. -/
def mks : List (Int × Int) := [(701, 702), (701, 702)]

theorem Tryz.elem36 : Tryz.prog.underlying 36 = some (.slice (Tryz.prog.elem 36)) := by kernel_rfl
theorem Tryz.elem36Is : Tryz.prog.elem 36 = 154 := by kernel_rfl
theorem size154 (w : World) : (sizeOf (Tryz.prog.elem 36)).run Tryz.prog w = .ok 2 w := by
  obtain ⟨i0, hi, hz0, hz1, hz2⟩ := info_parts Tryz.info154
  rw [Tryz.elem36Is]
  simp [sizeOf, typeInfo, hi, hz1]

theorem slice36 (a : Addr) (n hi cap : Nat) (h : hi ≤ cap) (wx : World) : (Instr.slice 36 (.slice (some a) n cap) none (some (.int .i64 hi)) none).run Tryz.prog wx = .ok (.slice (some a) hi cap) wx := by
  rw [run_slice_h wx 36 (some a) n cap Tryz.elem36 .i64 hi (by omega) (by omega), size154]
  simp [sliced, Addr.add]

theorem own2_set {w : World} {B n g cap : Nat} {xs : List Value} (h : w.ownsRow B 154 2 (.slice (some ⟨g, 0, none⟩) n cap) n xs) (j : Nat) (y : Value) : (w.setCell ⟨g, j, none⟩ y).ownsRow B 154 2 (.slice (some ⟨g, 0, none⟩) n cap) n (xs.set j y) := by
  have hl := h.1
  rcases h.2 with ⟨h1, _⟩ | ⟨g', cap', cur, h1, hb, hg, hc, hm, hs, ht⟩
  · cases h1
  · injection h1 with e1 e2 e3
    injection e1 with e1
    injection e1 with e1
    subst e1 e3
    refine ⟨by simp [hl], .inr ⟨g, cap, cur.setIfInBounds j y, rfl, hb, set_block hg _, hc, hm, by simpa using hs, ?_⟩⟩
    rw [Array.toList_setIfInBounds, List.take_set, ht]

/-- The first k are written over. -/
def wiped (fs : List (Int × Int)) (k : Nat) : List Value := (List.replicate k ((1, 1) : Int × Int) ++ fs.drop k).flatMap fcs

theorem wiped_zero (fs : List (Int × Int)) : wiped fs 0 = fs.flatMap fcs := by simp [wiped]
theorem wiped_len (fs : List (Int × Int)) (k : Nat) (h : k ≤ fs.length) : (wiped fs k).length = fs.length * 2 := by
  rw [wiped, flat_len fcs 2 (fun _ => rfl)]; simp; omega
theorem wiped_get (fs : List (Int × Int)) (k : Nat) (h : k < fs.length) (c : Nat) (hc : c < 2) : (wiped fs k)[k * 2 + c]? = (fcs fs[k])[c]? := by
  rw [wiped, flat_get fcs 2 (fun _ => rfl) _ _ _ hc, List.getElem?_append_right (by simp)]
  simp [h]
theorem flat_set {α : Type} (f : α → List Value) (m : Nat) (hf : ∀ x, (f x).length = m) : ∀ (xs : List α) (k : Nat) (y : α), k < xs.length → ∀ zs : List Value, zs.length = xs.length * m → (∀ i c, c < m → i ≠ k → zs[i * m + c]? = (xs.flatMap f)[i * m + c]?) → (∀ c, c < m → zs[k * m + c]? = (f y)[c]?) → zs = (xs.set k y).flatMap f := by
  intro xs k y hk zs hl h1 h2
  apply List.ext_getElem?
  intro j
  rcases Nat.eq_zero_or_pos m with h0 | h0
  · subst h0
    have e1 : zs = [] := List.eq_nil_of_length_eq_zero (by simpa using hl)
    have e2 : (xs.set k y).flatMap f = [] := List.eq_nil_of_length_eq_zero (by rw [flat_len f 0 hf]; simp)
    rw [e1, e2]
  · have hj : j = j / m * m + j % m := by rw [Nat.mul_comm]; exact (Nat.div_add_mod j m).symm
    have hc : j % m < m := Nat.mod_lt _ h0
    rw [hj, flat_get f m hf _ _ _ hc]
    by_cases e : j / m = k
    · rw [e, h2 _ hc]
      simp [hk]
    · rw [h1 _ _ hc e, flat_get f m hf _ _ _ hc, List.getElem?_set_ne (fun h => e h.symm)]

theorem wiped_step (fs : List (Int × Int)) (k : Nat) (h : k < fs.length) : ((wiped fs k).set (k * 2) (.int .i64 1)).set (k * 2 + 1) (.int .i64 1) = wiped fs (k + 1) := by
  have hw : wiped fs (k + 1) = ((List.replicate k ((1, 1) : Int × Int) ++ fs.drop k).set k (1, 1)).flatMap fcs := by
    unfold wiped
    congr 1
    have e : List.drop k fs = fs[k] :: List.drop (k + 1) fs := List.drop_eq_getElem_cons h
    rw [List.set_append_right _ _ (by simp), List.replicate_succ']
    simp
    rw [e]
    rfl
  rw [hw]
  apply flat_set fcs 2 (fun _ => rfl)
  · simp; omega
  · simp only [List.length_set]
    rw [wiped_len fs k (by omega)]
    simp
    omega
  · intro i c hc hi
    rw [List.getElem?_set_ne (by omega), List.getElem?_set_ne (by omega)]
    rfl
  · intro c hc
    have hl := wiped_len fs k (by omega)
    have h2 : k * 2 + 1 < fs.length * 2 := by omega
    have : c = 0 ∨ c = 1 := by omega
    rcases this with rfl | rfl
    · rw [List.getElem?_set_ne (by omega), Nat.add_zero, List.getElem?_set_self (by omega)]
      rfl
    · rw [List.getElem?_set_self (by simp; omega)]
      rfl

set_option maxRecDepth 100000 in
set_option maxHeartbeats 3200000 in
theorem planned_any (sv rv : Value) (fs fr : List (Int × Int)) (w : World) (h1 : Fl w sv fs) (h2 : Fl w rv fr) (l1 : fs.length ≤ 300) (l2 : fr.length ≤ 300) :
    Calls Tryz.prog 61 #[.agg #[sv, rv]] w fun x w' => ∃ g h cap cap', x = .returned (.agg #[.slice (some ⟨g, 0, none⟩) fs.length cap, .slice (some ⟨h, 0, none⟩) fr.length cap']) ∧
      w'.ownsRow w.heap.size 154 2 (.slice (some ⟨g, 0, none⟩) (fs.length + 2) cap) (fs.length + 2) ((fs ++ mks).flatMap fcs) ∧ w'.ownsRow w.heap.size 154 2 (.slice (some ⟨h, 0, none⟩) (fr.length + 2) cap') (fr.length + 2) ((fr ++ mks).flatMap fcs) ∧ g ≠ h ∧ Below w.heap.size w w' := by
  obtain ⟨ao, cp, rfl, hc1, hc2⟩ := h1.shape
  obtain ⟨ar, cr, rfl, hc3, hc4⟩ := h2.shape
  have HF1 := hid h1
  have HF2 := hid h2
  clear h1 h2
  have hb0 : Below w.heap.size w (((w.alloc (.cells #[.slice ao fs.length cp, .slice ar fr.length cr] 38)).alloc (.cells #[.slice none 0 0, .slice none 0 0] 38)).alloc (.cells #[.int .i64 701, .int .i64 702] 154)) := (((Below.refl _ _).alloc (Nat.le_refl _) _).alloc (by simp) _).alloc (by simp; omega) _
  have HB0 := hid hb0
  clear hb0
  have hsz : (((w.alloc (.cells #[.slice ao fs.length cp, .slice ar fr.length cr] 38)).alloc (.cells #[.slice none 0 0, .slice none 0 0] 38)).alloc (.cells #[.int .i64 701, .int .i64 702] 154)).heap.size = w.heap.size + 3 := by simp
  have HSZ := hid hsz
  clear hsz
  have hr0 : (((w.alloc (.cells #[.slice ao fs.length cp, .slice ar fr.length cr] 38)).alloc (.cells #[.slice none 0 0, .slice none 0 0] 38)).alloc (.cells #[.int .i64 701, .int .i64 702] 154)).heap[w.heap.size + 1]? = some (.cells #[.slice none 0 0, .slice none 0 0] 38 (0, 0)) := by
    have := hp_alloc (hp_new (w.alloc (.cells #[.slice ao fs.length cp, .slice ar fr.length cr] 38)) (.cells #[.slice none 0 0, .slice none 0 0] 38)) (.cells #[.int .i64 701, .int .i64 702] 154)
    simpa using this
  have HR0 := hid hr0
  clear hr0
  obtain ⟨i0, hi, hy0, hy1, hy2⟩ := info_parts Tryz.info154
  go_enter Tryz.func61, Tryz.ntmps61
  go_wp2_with (
    at_builtin
    first
    | (
      refine wpList_append_rf _ rfl _ _ 36 154 _ 2 16 rfl Tryz.underlying36 Tryz.info154 rfl (by omega) (w.heap.size + 3) (.slice none 0 0) 0 [] rfl (owns_nil _ _ _ _) (.slice ao fs.length cp) fs.length (fs.flatMap fcs) rfl (HF1.out.below HB0.out) (by omega) (by unfold maxLen; omega) (by simp <;> omega) ?_
      intro ao1 c1 w1 ho1 hg1 hat1
      have hb1 := (Below.refl (w.heap.size + 3) _).grown hg1.out (by simp <;> omega) (fun k e => by simp [Value.ownBlock] at e)
      have p0 : w1.cell? ⟨w.heap.size, 0, none⟩ = some (.slice ao fs.length cp) := (hb1.cell (by simp <;> omega)).trans (by simp [go_sem])
      have p1 : w1.cell? ⟨w.heap.size, 1, none⟩ = some (.slice ar fr.length cr) := (hb1.cell (by simp <;> omega)).trans (by simp [go_sem])
      have m0 : w1.cell? ⟨w.heap.size + 1 + 1, 0, none⟩ = some (.int .i64 701) := (hb1.cell (by simp <;> omega)).trans (by simp [go_sem])
      have m1 : w1.cell? ⟨w.heap.size + 1 + 1, 1, none⟩ = some (.int .i64 702) := (hb1.cell (by simp <;> omega)).trans (by simp [go_sem])
      have hz1 : w.heap.size + 3 ≤ w1.heap.size := (by have := hb1.size; simp at this; omega)
      have hbw1 : Below w.heap.size w w1 := HB0.out.trans (hb1.mono (by omega))
      have hr1 := (show w1.heap[w.heap.size + 1]? = some (.cells #[.slice none 0 0, .slice none 0 0] 38 (0, 0)) from (hb1.block (w.heap.size + 1) (by omega)).trans HR0.out)
      have ho1' := ho1.out
      simp only [Nat.zero_add, List.nil_append] at ho1'
      have hat1' : ∀ k, (Value.slice ao1 fs.length c1).ownBlock = some k → k < w1.heap.size := fun k hk => (ho1'.lt k hk).2
      have HX1 := hid (And.intro ho1' (And.intro hbw1 (And.intro hat1' hr1)))
      clear hb1 hbw1 ho1 hg1 hat1 ho1' hat1' hr1)
    | (
      refine wpList_append_rf _ rfl _ _ 36 154 _ 2 16 rfl Tryz.underlying36 Tryz.info154 rfl (by omega) (w.heap.size + 3) (.slice none 0 0) 0 [] rfl (owns_nil _ _ _ _) (.slice ar fr.length cr) fr.length (fr.flatMap fcs) rfl (HF2.out.below HX1.out.2.1) (by omega) (by unfold maxLen; omega) hz1 ?_
      intro ao2 c2 w2 ho2 hg2 hat2
      have hb2 := (Below.refl w1.heap.size w1).grown hg2.out (Nat.le_refl _) (fun k e => by simp [Value.ownBlock] at e)
      have p02 := (hb2.cell (World.block_lt_of_cell? _ _ p0)).trans p0
      have p12 := (hb2.cell (World.block_lt_of_cell? _ _ p1)).trans p1
      have m02 := (hb2.cell (World.block_lt_of_cell? _ _ m0)).trans m0
      have m12 := (hb2.cell (World.block_lt_of_cell? _ _ m1)).trans m1
      have hz2 : w1.heap.size ≤ w2.heap.size := hb2.size
      have hbw2 : Below w.heap.size w w2 := HX1.out.2.1.trans (hb2.mono HX1.out.2.1.size)
      have hr2 := hp_below HX1.out.2.2.2 hb2 (hp_lt HX1.out.2.2.2)
      have ho2' := ho2.out
      simp only [Nat.zero_add, List.nil_append] at ho2'
      have ho12 := ownsRow_kept HX1.out.1 (Kept.ofBelow hb2) (fun _ _ h => h)
      have hat2' : ∀ k, (Value.slice ao2 fr.length c2).ownBlock = some k → w1.heap.size ≤ k := fun k hk => (by
        have := hat2.out
        simp only [Nat.zero_add] at this
        rw [hk] at this
        rcases this with h | h
        · simp [Value.ownBlock] at h
        · injection h with h; omega)
      have HX2 := hid (And.intro ho12 (And.intro ho2' (And.intro hbw2 (And.intro hat2' hr2))))
      clear hb2 hbw2 ho2 hg2 hat2 ho2' hat2' hr2 ho12 p0 p1 m0 m1)
    | (
      refine wpList_append_lies _ rfl _ _ 36 rfl (w.heap.size + 3) 154 i0 _ 2 16 Tryz.underlying36 hi hy0 hy1 hy2 rfl (by omega) (.slice ao1 fs.length c1) fs.length (fs.flatMap fcs) rfl (HX2.out.1.alloc _) ⟨w2.heap.size, 0, none⟩ 2 2 [.int .i64 701, .int .i64 702, .int .i64 701, .int .i64 702] rfl rfl (World.news_of_block (cs := #[.int .i64 701, .int .i64 702, .int .i64 701, .int .i64 702]) (t := 154) (fr := (0, 0)) (heap_alloc_new w2 _)) (by simp [Value.oneCell']) (by omega) (by unfold maxLen; omega) (by omega) (by simp <;> omega) (w2.heap.size + 1) (by simp) ?_
      intro g3 c3 w3 hown3 hgrow3 hat3 hgl3
      have K3 : Kept (fun k => (Value.slice ao1 fs.length c1).ownBlock = some k) w2 w3 := Kept.grown ((Kept.refl _ w2).alloc _) hgrow3 (fun k _ e => e)
      have hlo : ∀ k, k < w.heap.size + 3 → ¬ (Value.slice ao1 fs.length c1).ownBlock = some k := fun k hk e => (by have := (HX2.out.1.lt _ e).1; omega)
      have p03 := K3.cell p02 (hlo _ (by dsimp only; omega))
      have p13 := K3.cell p12 (hlo _ (by dsimp only; omega))
      have m03 := K3.cell m02 (hlo _ (by dsimp only; omega))
      have m13 := K3.cell m12 (hlo _ (by dsimp only; omega))
      have hz3 : w2.heap.size ≤ w3.heap.size := K3.size
      have hbw3 : Below w.heap.size w w3 := HX2.out.2.2.1.trans (K3.below HX2.out.2.2.1.size (fun k hk => hlo k (by omega)))
      have hr3 := hp_kept HX2.out.2.2.2.2 K3 (hlo _ (by omega))
      have ho23 := ownsRow_kept HX2.out.2.1 K3 (fun k hk e => (by have q1 := HX2.out.2.2.2.1 k hk; have q2 := HX1.out.2.2.1 k e; omega))
      have hg3 : (∃ k, k < w1.heap.size ∧ g3 = k) ∨ w2.heap.size ≤ g3 := (by
        rcases hat3 with h | h
        · exact .inl ⟨g3, HX1.out.2.2.1 _ h, rfl⟩
        · exact .inr (by omega))
      have HX3 := hid (And.intro hown3 (And.intro ho23 (And.intro hbw3 (And.intro hg3 (And.intro hr3 hgl3)))))
      clear hown3 hgrow3 hat3 K3 hlo hbw3 hr3 ho23 hg3 p02 p12 m02 m12 hgl3)
    | (
      refine wpList_append_lies _ rfl _ _ 36 rfl (w.heap.size + 3) 154 i0 _ 2 16 Tryz.underlying36 hi hy0 hy1 hy2 rfl (by omega) (.slice ao2 fr.length c2) fr.length (fr.flatMap fcs) rfl (HX3.out.2.1.alloc _) ⟨w3.heap.size, 0, none⟩ 2 2 [.int .i64 701, .int .i64 702, .int .i64 701, .int .i64 702] rfl rfl (World.news_of_block (cs := #[.int .i64 701, .int .i64 702, .int .i64 701, .int .i64 702]) (t := 154) (fr := (0, 0)) (heap_alloc_new w3 _)) (by simp [Value.oneCell']) (by omega) (by unfold maxLen; omega) (by omega) (by simp <;> omega) (w3.heap.size + 1) (by simp) ?_
      intro g4 c4 w4 hown4 hgrow4 hat4 hgl4
      have K4 : Kept (fun k => (Value.slice ao2 fr.length c2).ownBlock = some k) w3 w4 := Kept.grown ((Kept.refl _ w3).alloc _) hgrow4 (fun k _ e => e)
      have hlo : ∀ k, k < w.heap.size + 3 → ¬ (Value.slice ao2 fr.length c2).ownBlock = some k := fun k hk e => (by have := (HX3.out.2.1.lt _ e).1; omega)
      have p04 := K4.cell p03 (hlo _ (by dsimp only; omega))
      have p14 := K4.cell p13 (hlo _ (by dsimp only; omega))
      have hz4 : w3.heap.size ≤ w4.heap.size := K4.size
      have hbw4 : Below w.heap.size w w4 := HX3.out.2.2.1.trans (K4.below HX3.out.2.2.1.size (fun k hk => hlo k (by omega)))
      have hr4 := hp_kept HX3.out.2.2.2.2.1 K4 (hlo _ (by omega))
      have hne2 : (Value.slice ao2 fr.length c2).ownBlock ≠ some g3 := fun e => (by
        have q1 := HX2.out.2.2.2.1 _ e
        have q2 := (HX2.out.2.1.lt _ e).2
        rcases HX3.out.2.2.2.1 with ⟨k, h1, h2⟩ | h
        · omega
        · omega)
      have ho34 := ownsRow_kept HX3.out.1 K4 (fun k hk e => (by simp only [Value.ownBlock] at hk; exact hne2 (by rw [e, hk])))
      have hne4 : g3 ≠ g4 := fun e => (by
        rcases hat4 with h | h
        · exact hne2 (by rw [h, e])
        · have := HX3.out.2.2.2.2.2; omega)
      have f4 : ∀ o, w4.frozen? ⟨w.heap.size + 1, o, none⟩ = false := fun o => free_of_block hr4
      have r04 : w4.cell? ⟨w.heap.size + 1, 0, none⟩ = some (.slice none 0 0) := (by rw [cell_of_row w4 _ 0 _ _ _ hr4]; rfl)
      have r14 : w4.cell? ⟨w.heap.size + 1, 1, none⟩ = some (.slice none 0 0) := (by rw [cell_of_row w4 _ 1 _ _ _ hr4]; rfl)
      have HX4 := hid (And.intro hown4 (And.intro ho34 (And.intro hbw4 (And.intro hne4 (And.intro hr4 hgl4)))))
      have sl1 := slice36 ⟨g3, 0, none⟩ (fs.length + 2) fs.length c3 (by have := ho34.2; rcases this with ⟨h, _⟩ | ⟨_, _, _, h, _, _, hc, _⟩; cases h; injection h with _ _ h; omega)
      have sl2 := slice36 ⟨g4, 0, none⟩ (fr.length + 2) fr.length c4 (by have := hown4.2; rcases this with ⟨h, _⟩ | ⟨_, _, _, h, _, _, hc, _⟩; cases h; injection h with _ _ h; omega)
      clear hown4 hgrow4 hat4 K4 hlo hbw4 hr4 hne2 ho34 hne4 p03 p13 m03 m13 hgl4))
  have hw4 : w.heap.size + 1 < w4.heap.size := by omega
  go_region
  go_wp2
  refine bodyPost_ret (v := .agg #[.slice (some ⟨g3, 0, none⟩) fs.length c3, .slice (some ⟨g4, 0, none⟩) fr.length c4]) (by simp [results, Tryz.results61, go_sem, r04, r14]) rfl ?_
  obtain ⟨hown4, ho34, hbw4, hne4, hr4, hgl4⟩ := HX4.out
  have k5 : Kept (fun k => k = w.heap.size + 1) w4 ((w4.setCell ⟨w.heap.size + 1, 0, none⟩ (.slice (some ⟨g3, 0, none⟩) fs.length c3)).setCell ⟨w.heap.size + 1, 1, none⟩ (.slice (some ⟨g4, 0, none⟩) fr.length c4)) := ((Kept.refl (fun k => k = w.heap.size + 1) w4).setCell (p := ⟨w.heap.size + 1, 0, none⟩) (fun _ => rfl) _).setCell (p := ⟨w.heap.size + 1, 1, none⟩) (fun _ => rfl) _
  have e3 := ownsRow_kept ho34 k5 (fun k hk e => by have := (ho34.lt k hk).1; omega)
  have e4 := ownsRow_kept hown4 k5 (fun k hk e => by have := (hown4.lt k hk).1; omega)
  have m3 : fs.flatMap fcs ++ [.int .i64 701, .int .i64 702, .int .i64 701, .int .i64 702] = (fs ++ mks).flatMap fcs := by simp [mks, fcs]
  have m4 : fr.flatMap fcs ++ [.int .i64 701, .int .i64 702, .int .i64 701, .int .i64 702] = (fr ++ mks).flatMap fcs := by simp [mks, fcs]
  rw [m3] at e3
  rw [m4] at e4
  refine ⟨g3, g4, c3, c4, rfl, ownsRow_base_a e3 (by omega), ownsRow_base_a e4 (by omega), hne4, ?_⟩
  exact ((hbw4.setCell (p := ⟨w.heap.size + 1, 0, none⟩) (by simp) _).setCell (p := ⟨w.heap.size + 1, 1, none⟩) (by simp) _).drew

end Go.Proofs.YtlmompdfombgeaaGreat

namespace Go.Proofs.YtlmompdfombgeaaGreat
open Go.RowKit Go.MapKept

theorem fl_kept_if {w w' : World} {g : Nat} {v : Value} {fs : List (Int × Int)} (h : Fl w v fs) (hk : Kept (fun k => k = g) w w') (hn : fs ≠ [] → v.ownBlock ≠ some g) : Fl w' v fs := by
  by_cases e : fs = []
  · subst e
    obtain ⟨h0, h1, h2⟩ := h
    refine ⟨h0, h1, ?_⟩
    rcases h2 with h2 | ⟨a, cap, rfl, h3, h5, h4⟩
    · exact .inl h2
    · exact .inr ⟨a, cap, rfl, h3, h5, fun j u hu => by simp at hu⟩
  · exact Rf.kept h hk (fun k hq e2 => hn e (by rw [hq, e2]))

set_option maxRecDepth 100000 in
set_option maxHeartbeats 3200000 in
theorem lfaults_any (B g cap : Nat) (wv : Value) (fs : List (Int × Int)) (w : World) (ho : w.ownsRow B 154 2 (.slice (some ⟨g, 0, none⟩) (fs.length + 2) cap) (fs.length + 2) ((fs ++ mks).flatMap fcs)) (h : Fl w wv fs) (hne : fs ≠ [] → wv.ownBlock ≠ some g) (hl : fs.length ≤ 300) :
    Calls Tryz.prog 112 #[.slice (some ⟨g, 0, none⟩) fs.length cap, wv] w fun x w' => x = .returned (.bool true) ∧ Kept (fun k => k = g) w w' := by
  obtain ⟨ao, cp, rfl, hc1, hc2⟩ := h.shape
  have hcap : fs.length + 2 ≤ cap := by
    rcases ho.2 with ⟨h, _⟩ | ⟨_, _, _, h, _, _, hc, _⟩
    · cases h
    · injection h with _ _ h; omega
  have sl := slice36 ⟨g, 0, none⟩ fs.length (fs.length + 2) cap hcap
  rw [show (((fs.length + 2 : Nat)) : Int) = (fs.length : Int) + 2 by omega] at sl
  have HO := hid ho
  have HF := hid h
  clear ho h
  go_enter Tryz.func112, Tryz.ntmps112
  go_wp2
  go_loopw [7, 8] (fun ok i wr => ∃ k : Nat, k ≤ fs.length + 2 ∧ i = .int .i64 k ∧ ok = .bool true ∧ wr.ownsRow B 154 2 (.slice (some ⟨g, 0, none⟩) (fs.length + 2) cap) (fs.length + 2) (wiped (fs ++ mks) k) ∧ Kept (fun k => k = g) w wr) (fun _ i _ => fs.length + 2 - (intOf i).toNat)
  case atStart => exact ⟨0, Nat.zero_le _, by go_num, by simp, by rw [wiped_zero]; exact HO.out, Kept.refl _ _⟩
  case round =>
    obtain ⟨k, hk, rfl, rfl, ho, hK⟩ := hrel
    by_cases hlt : k < fs.length + 2
    · have hlm : k < (fs ++ mks).length := by simp [mks]; omega
      have hgl : g < wr.heap.size := (ho.lt g rfl).2
      obtain ⟨A, hA⟩ : ∃ A, A = (fs ++ mks)[k] := ⟨_, rfl⟩
      have w0 := wiped_get (fs ++ mks) k hlm 0 (by omega)
      have w1 := wiped_get (fs ++ mks) k hlm 1 (by omega)
      rw [← hA] at w0 w1
      have y0 : wr.cell? ⟨g, k * 2, none⟩ = some (.int .i64 A.1) := by
        have := ho.cells (g := g) rfl (k * 2) (.int .i64 A.1) (by rw [← Nat.add_zero (k * 2), w0]; rfl)
        rwa [add_lit, Nat.zero_add] at this
      have y1 : wr.cell? ⟨g, k * 2 + 1, none⟩ = some (.int .i64 A.2) := by
        have := ho.cells (g := g) rfl (k * 2 + 1) (.int .i64 A.2) (by rw [w1]; rfl)
        rwa [add_lit, Nat.zero_add] at this
      have ff : ∀ o, wr.frozen? ⟨g, o, none⟩ = false := fun o => by
        obtain ⟨cs, hcs⟩ := owns_block ho g rfl
        exact free_of_block hcs
      have i2 : (k : Int) < (fs.length : Int) + 2 := by omega
      have HR := hid (And.intro ho (And.intro hK hlm))
      by_cases hin : k < fs.length
      · obtain ⟨b, off, cap', e, -, -, hcell⟩ := Rf.elem (f := fcs) (fun _ => rfl) (by omega) HF.out k hin
        injection e with e1 e2 e3
        subst e1 e3
        clear e2
        have hAk : A = fs[k] := by rw [hA, List.getElem_append_left hin]
        rw [← hAk] at hcell
        have hbg : b ≠ g := fun e => hne (List.ne_nil_of_length_pos (by omega)) (by simp [Value.ownBlock, e])
        have x0 : wr.cell? ⟨b, off + k * 2, none⟩ = some (.int .i64 A.1) := hK.cell (hcell 0 _ rfl) hbg
        have x1 : wr.cell? ⟨b, off + k * 2 + 1, none⟩ = some (.int .i64 A.2) := hK.cell (hcell 1 _ rfl) hbg
        have hbl : b < wr.heap.size := World.block_lt_of_cell? _ _ x0
        have i3 : (k : Int) < (fs.length : Int) := by omega
        obtain ⟨at', kd⟩ := A
        dsimp only at x0 x1 y0 y1
        clear hA w0 w1 ho hK hAk hcell hlm
        go_wp2
        go_region
        go_wp2
        go_roundw
        case rel =>
          obtain ⟨ho, hK, hlm⟩ := HR.out
          have e1 := own2_set (own2_set ho (k * 2) (.int .i64 1)) (k * 2 + 1) (.int .i64 1)
          rw [wiped_step _ _ hlm] at e1
          have k1 : Kept (fun k => k = g) w ((wr.setCell ⟨g, k * 2, none⟩ (.int .i64 1)).setCell ⟨g, k * 2 + 1, none⟩ (.int .i64 1)) := (hK.setCell (p := ⟨g, k * 2, none⟩) (fun _ => rfl) _).setCell (p := ⟨g, k * 2 + 1, none⟩) (fun _ => rfl) _
          exact ⟨k + 1, by omega, by go_num, by simp, (e1.alloc _).drew, (k1.alloc _).drew⟩
        case measure => simp [intOf]; omega
      · have hAk : A = (701, 702) := by
          rw [hA, List.getElem_append_right (by omega)]
          have : k - fs.length = 0 ∨ k - fs.length = 1 := by omega
          rcases this with h | h <;> simp [mks, h]
        subst hAk
        dsimp only at y0 y1
        have i3 : ¬ (k : Int) < (fs.length : Int) := by omega
        clear hA w0 w1 ho hK hlm
        go_wp2
        go_region
        go_wp2
        go_roundw
        case rel =>
          obtain ⟨ho, hK, hlm⟩ := HR.out
          have e1 := own2_set (own2_set ho (k * 2) (.int .i64 1)) (k * 2 + 1) (.int .i64 1)
          rw [wiped_step _ _ hlm] at e1
          have k1 : Kept (fun k => k = g) w ((wr.setCell ⟨g, k * 2, none⟩ (.int .i64 1)).setCell ⟨g, k * 2 + 1, none⟩ (.int .i64 1)) := (hK.setCell (p := ⟨g, k * 2, none⟩) (fun _ => rfl) _).setCell (p := ⟨g, k * 2 + 1, none⟩) (fun _ => rfl) _
          exact ⟨k + 1, by omega, by go_num, by simp, (e1.alloc _).drew, (k1.alloc _).drew⟩
        case measure => simp [intOf]; omega
    · have i2 : ¬ (k : Int) < (fs.length : Int) + 2 := by omega
      have HR := hid hK
      clear ho hK
      go_wp2
      go_ret
      exact ⟨rfl, HR.out⟩

theorem fl_marked {w : World} {B g cap : Nat} {fs : List (Int × Int)} (ho : w.ownsRow B 154 2 (.slice (some ⟨g, 0, none⟩) (fs.length + 2) cap) (fs.length + 2) ((fs ++ mks).flatMap fcs)) : Fl w (.slice (some ⟨g, 0, none⟩) fs.length cap) fs := by
  have hm : cap ≤ maxLen ∧ fs.length + 2 ≤ cap := by
    rcases ho.2 with ⟨h, _⟩ | ⟨_, _, _, h, _, _, hc, hm, _⟩
    · cases h
    · injection h with _ _ h; subst h; exact ⟨hm, hc⟩
  refine ⟨flat_len fcs 2 (fun _ => rfl) fs, fcs_one fs, .inr ⟨_, cap, rfl, by omega, hm.1, fun j u hu => ?_⟩⟩
  have hj : j < (fs.flatMap fcs).length := by
    rcases Nat.lt_or_ge j (fs.flatMap fcs).length with h | h
    · exact h
    · rw [List.getElem?_eq_none h] at hu; cases hu
  exact ho.cells (g := g) rfl j u (by rw [List.flatMap_append, List.getElem?_append_left hj]; exact hu)

set_option maxRecDepth 100000 in
set_option maxHeartbeats 3200000 in
theorem unplanned_any (B g h cap cap' : Nat) (sv rv : Value) (fs fr : List (Int × Int)) (w : World) (ho : w.ownsRow B 154 2 (.slice (some ⟨g, 0, none⟩) (fs.length + 2) cap) (fs.length + 2) ((fs ++ mks).flatMap fcs)) (ho2 : w.ownsRow B 154 2 (.slice (some ⟨h, 0, none⟩) (fr.length + 2) cap') (fr.length + 2) ((fr ++ mks).flatMap fcs)) (hgh : g ≠ h)
    (h1 : Fl w sv fs) (h2 : Fl w rv fr) (l1 : fs.length ≤ 300) (l2 : fr.length ≤ 300) (n1 : fs ≠ [] → sv.ownBlock ≠ some g) (n2 : fr ≠ [] → rv.ownBlock ≠ some g) (n3 : fr ≠ [] → rv.ownBlock ≠ some h) :
    Calls Tryz.prog 63 #[.agg #[.slice (some ⟨g, 0, none⟩) fs.length cap, .slice (some ⟨h, 0, none⟩) fr.length cap'], .agg #[sv, rv]] w fun x w' => x = .returned (.bool true) ∧ Kept (fun k => k = g ∨ k = h) w w' := by
  obtain ⟨ao, cp, rfl, hc1, hc2⟩ := h1.shape
  obtain ⟨ar, cr, rfl, hc3, hc4⟩ := h2.shape
  have hgl : g < w.heap.size := (ho.lt g rfl).2
  have hhl : h < w.heap.size := (ho2.lt h rfl).2
  have HX := hid (And.intro ho (And.intro ho2 (And.intro h1 h2)))
  clear ho ho2 h1 h2
  go_enter Tryz.func63, Tryz.ntmps63
  have hb0 : Below w.heap.size w ((w.alloc (.cells #[.slice (some ⟨g, 0, none⟩) fs.length cap, .slice (some ⟨h, 0, none⟩) fr.length cap'] 38)).alloc (.cells #[.slice ao fs.length cp, .slice ar fr.length cr] 38)) := ((Below.refl _ _).alloc (Nat.le_refl _) _).alloc (by simp) _
  have HB0 := hid hb0
  clear hb0
  go_wp2_with (
    go_at_call 112
    first
    | ((with_reducible show Calls _ _ #[.slice (some ⟨g, 0, none⟩) fs.length cap, .slice ao fs.length cp] _ _)
       refine (lfaults_any B g cap (.slice ao fs.length cp) fs _ (ownsRow_kept HX.out.1 (Kept.ofBelow HB0.out) (fun _ _ e => e)) (HX.out.2.2.1.below HB0.out) n1 l1).mono ?_
       rintro e w1 ⟨rfl, hk1⟩
       have hkw : Kept (fun k => k = g) w w1 := ((Kept.ofBelow HB0.out).mono (fun _ _ e => e.elim)).trans hk1 (fun _ _ e => e)
       have q0 : w1.cell? ⟨w.heap.size, 1, none⟩ = some (.slice (some ⟨h, 0, none⟩) fr.length cap') := hk1.cell (by simp [go_sem]) (by dsimp only; omega)
       have q1 : w1.cell? ⟨w.heap.size + 1, 1, none⟩ = some (.slice ar fr.length cr) := hk1.cell (by simp [go_sem]) (by dsimp only; omega)
       have HK := hid hkw
       clear hk1 hkw)
    | ((with_reducible show Calls _ _ #[.slice (some ⟨h, 0, none⟩) fr.length cap', .slice ar fr.length cr] _ _)
       refine (lfaults_any B h cap' (.slice ar fr.length cr) fr w1 (ownsRow_kept HX.out.2.1 HK.out (fun k hk e => (by simp only [Value.ownBlock, Option.some.injEq] at hk; omega))) (fl_kept_if HX.out.2.2.2 HK.out n2) n3 l2).mono ?_
       rintro e w2 ⟨rfl, hk2⟩
       have HK2 := hid hk2
       clear hk2))
  go_ret
  exact ⟨rfl, (HK.out.mono (S' := fun k => k = g ∨ k = h) (fun _ _ e => .inl e)).trans HK2.out (fun _ _ e => .inr e)⟩

end Go.Proofs.YtlmompdfombgeaaGreat

namespace Go.Proofs.YtlmompdfombgeaaGreat
open Go.RowKit Go.MapKept

theorem fl_low {w0 : World} {v : Value} {fs : List (Int × Int)} {g : Nat} (h : Fl w0 v fs) (hg : w0.heap.size ≤ g) : fs ≠ [] → v.ownBlock ≠ some g := by
  intro hne e
  obtain ⟨b, off, cap, rfl, -, -, hc⟩ := Rf.lits h (List.length_pos_iff.2 hne) (by omega)
  simp only [Value.ownBlock, Option.some.injEq] at e
  have h1 := hc 0 ((fs.flatMap fcs)[0]'(by rw [flat_len fcs 2 (fun _ => rfl)]; have := List.length_pos_iff.2 hne; omega)) (by simp)
  have := World.block_lt_of_cell? _ _ h1
  dsimp only at this
  omega

end Go.Proofs.YtlmompdfombgeaaGreat
