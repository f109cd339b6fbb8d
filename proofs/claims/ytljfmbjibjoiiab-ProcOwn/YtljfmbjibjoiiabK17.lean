import Derived.Test.YtljfmbjibjoiiabK16
namespace Go.Proofs.Ytljfmbjibjoiiab
open Go.RowKit Go.Lib

/-- What the law holds against: the procedure, its twin, the line and its copy. -/
structure Pb (w W : World) (nm : ByteArray) (ar : Int) (S : Value) (rw gw cw gl : Nat) (kv : Value) (xs : List Ins) (bs : List Int) : Prop where
  r0 : W.heap[w.heap.size]? = some (po nm ar S)
  r5 : W.heap[rw]? = some (po nm ar (.slice (some ⟨gw, 0, none⟩) xs.length cw))
  tc : CodeAt W (.slice (some ⟨gw, 0, none⟩) xs.length cw) xs
  ln : Own W gl bs
  kp : Sl W kv bs
  hb : Below w.heap.size w W

theorem Pb.below {w W W' : World} {nm : ByteArray} {ar : Int} {S : Value} {rw gw cw gl : Nat} {kv : Value} {xs : List Ins} {bs : List Int} (h : Pb w W nm ar S rw gw cw gl kv xs bs) (hb : Below W.heap.size W W') : Pb w W' nm ar S rw gw cw gl kv xs bs :=
  ⟨blk_of hb h.r0 (lt_of h.r0), blk_of hb h.r5 (lt_of h.r5), h.tc.below hb, blk_of hb h.ln (lt_of h.ln), h.kp.below hb, below_on h.hb hb⟩

theorem Pb.line {w W : World} {nm : ByteArray} {ar : Int} {S : Value} {rw gw cw gl : Nat} {kv : Value} {xs : List Ins} {bs : List Int} (h : Pb w W nm ar S rw gw cw gl kv xs bs) (hl : bs.length ≤ 1000000000) : Sl W (.slice (some ⟨gl, 0, none⟩) bs.length bs.length) bs := sl_of_owns (h.ln.owns (B := 0) (Nat.zero_le _) (by unfold maxLen; omega))

theorem sb_start (w1 : World) (R : Nat → List Int) (X : Nat → List Ins) : Sb w1 ((w1.alloc (a3 (fun _ => .slice none 0 0) 33)).alloc (a3 (fun _ => .slice none 0 0) 34)) w1.heap.size (w1.heap.size + 1) (fun _ => 0) (fun _ => 0) (fun _ => .slice none 0 0) (fun _ => .slice none 0 0) R X 0 :=
  ⟨below2 w1 _ _, two1 w1 _ _, two2 w1 _ _, ⟨Nat.le_refl _, by omega⟩, fun i hi => absurd hi (Nat.not_lt_zero _), fun i hi => absurd hi (Nat.not_lt_zero _), fun i hi => absurd hi (Nat.not_lt_zero _), fun i hi => absurd hi (Nat.not_lt_zero _), fun i hi => absurd hi (Nat.not_lt_zero _), fun i j _ hj => absurd hj (Nat.not_lt_zero _)⟩

theorem tw_code {w : World} {g cap : Nat} {xs zs : List Ins} (hcap : xs.length ≤ cap) (h : ∀ (j : Nat) (x : Ins), (xs ++ zs)[j]? = some x → InsAt w g (j * 8) x) : CodeAt w (.slice (some ⟨g, 0, none⟩) xs.length cap) xs :=
  ⟨_, cap, rfl, hcap, fun _ => ⟨g, 0, rfl, fun j x hx => by rw [Nat.zero_add]; exact h j x (by rw [List.getElem?_append_left (List.getElem?_eq_some_iff.1 hx).1]; exact hx)⟩⟩

theorem own_sl {W : World} {g : Nat} {zs : List Int} (h : Own W g zs) (hl : zs.length ≤ 1000000000) : Sl W (.slice (some ⟨g, 0, none⟩) zs.length zs.length) zs := sl_of_owns (h.owns (B := 0) (Nat.zero_le _) (by unfold maxLen; omega))

theorem bytes_same (a b : Value) (xs : List Int) (w : World) (ha : Sl w a xs) (hb : Sl w b xs) (hl : xs.length ≤ 1000000000) :
    Calls Try.prog 9 #[a, b] w fun x w' => DN w w' ∧ x = .returned (.bool true) := by
  have := bytes_any a b xs xs w ha hb hl
  rwa [show decide (xs = xs) = true by simp] at this

theorem po_set2' {W : World} {r : Nat} {nm : ByteArray} {ar : Int} {S : Value} (h : W.heap[r]? = some (po nm ar S)) (S' : Value) : (W.setCell ⟨r, 2, none⟩ S').heap[r]? = some (po nm ar S') := by
  simp [World.setCell, Array.getElem?_modify, h]

theorem w10 {n : Nat} (h : n < 3) : wrap64 (10 + (n : Int)) = 10 + (n : Int) := by unfold wrap64; omega
theorem w30 {n : Nat} (h : n < 3) : wrap64 (30 + (n : Int)) = 30 + (n : Int) := by unfold wrap64; omega

theorem w100 {n : Nat} (h : n < 3) : wrap64 (100 + (n : Int)) = 100 + (n : Int) := by unfold wrap64; omega
theorem w60 {n : Nat} (h : n < 3) : wrap64 (60 + (n : Int)) = 60 + (n : Int) := by unfold wrap64; omega

theorem rfb_new (w : World) (x : Int) : Rf (w.alloc (.cells #[.int .u8 x] 5)) 1 (.slice (some ⟨w.heap.size, 0, none⟩) 1 1) 1 (B8 [x]) := by
  have h : (w.alloc (.cells #[.int .u8 x] 5)).ownsRow 0 5 1 (.slice (some ⟨w.heap.size, 0, none⟩) 1 1) 1 (B8 [x]) := ⟨by simp, .inr ⟨w.heap.size, 1, _, rfl, Nat.zero_le _, heap_alloc_new w _, Nat.le_refl _, by decide, by simp, by simp⟩⟩
  exact rf_of_owns h (by intro u hu; obtain ⟨_, _, rfl⟩ := List.mem_map.1 hu; rfl)

theorem upd_const {α : Type} (n : Nat) (v : α) : upd (fun _ => v) n v = fun _ => v := by
  funext j
  simp [upd]

set_option maxRecDepth 100000 in
set_option maxHeartbeats 32000000 in
theorem own_ok (nm : ByteArray) (ar : Int) (S : Value) (xs : List Ins) (w : World) (h : Rf w 8 S xs.length (xs.flatMap Ins.cells)) (hi : ∀ x ∈ xs, InsOk x) (hl : (xs.length : Int) ≤ 65536) (hE : (procChk nm ar xs).2 = 0) :
    Calls Try.prog 3 #[.agg #[.string nm, .int .i64 ar, S]] w fun e w' => e = .returned (.bool true) ∧ Below w.heap.size w w' := by
  have HRF := hid h
  have HH := hid (code_of_rf h)
  have hC := fun W hW => pcheck_any nm ar S xs W hW (by omega)
  have hTW := fun W hW => twin_any nm ar S xs W hW hl
  have hEN := fun W hW => pencode_any nm ar S xs W hW (by omega) hi
  obtain ⟨C1, C2, hR⟩ : ∃ R1 R2, procChk nm ar xs = (R1, R2) := ⟨_, _, rfl⟩
  obtain ⟨bs, hbs⟩ : ∃ bs, bs = procB nm ar xs := ⟨_, rfl⟩
  have hbl := procB_len nm ar xs hE hi
  have hbo := procB_oct nm ar xs hE hi
  have hdec := dec_procB nm ar xs hE hi
  unfold PEnc at hEN
  unfold TwPost at hTW
  rw [← hbs] at hEN hbl hbo hdec
  rw [hR] at hC hE
  dsimp only at hC hE
  subst hE
  have HEN := hid hEN
  have HC := hid hC
  have HTW := hid hTW
  have HBO := hid hbo
  have HCK : Hid ((procChk nm ar xs).2 = 0) := hid (by rw [hR])
  have HD := hid (fun W v (hW : Sl W v bs) => pdecode_any v bs W hW hbo (by omega))
  rw [hdec] at HD
  unfold DPost at HD
  dsimp only at HD
  rw [mkStr_strBs] at HD
  have HSM := hid (fun W S2 (hW : CodeAt W S xs) (h2 : CodeAt W S2 xs) => same_any nm ar S xs nm ar S2 xs W hW h2 (by omega))
  rw [show sameB nm ar xs nm ar xs = true by simp [sameB]] at HSM
  obtain ⟨ao, cap, rfl, hcap, -⟩ := h.shape
  have hd0 : decide ((65536 : Int) < (xs.length : Int)) = false := by simp; omega
  have H0 := hid (And.intro (heap_alloc_new w (po nm ar (.slice ao xs.length cap))) (below1 w (po nm ar (.slice ao xs.length cap))))
  clear h hi hC hTW hEN hbo hdec hbs hR hcap
  go_enter Try.func3, Try.ntmps3
  go_upto_region 9 with (first
    | (go_at_call 4
       refine (HC.out _ (HH.out.below H0.out.2)).mono ?_
       rintro e w1 ⟨rfl, hb1⟩
       have H1 := hid (And.intro (blk_of hb1 H0.out.1 (lt_of H0.out.1)) (below_on H0.out.2 hb1))
       obtain ⟨p0, p1, p2, -⟩ := vfacts H1.out.1
       clear hb1)
    | (go_at_call 6; go_loud (
       refine (HTW.out _ (HRF.out.below H1.out.2)).mono ?_
       rintro e w2 ⟨gw, cw, cur, rfl, hcw, hgw, hkw, hat, hb2⟩
       have hco := tw_code (cap := cw) (g := gw) (zs := (List.range 9).map (fun i : Nat => markI (i : Int))) (by omega) hat
       have hba := below1 w2 (po nm ar (.slice (some ⟨gw, 0, none⟩) xs.length cw))
       have H2 := hid (And.intro (blk_of hba (blk_of hb2 H1.out.1 (lt_of H1.out.1)) (lt_of (blk_of hb2 H1.out.1 (lt_of H1.out.1)))) (And.intro (heap_alloc_new w2 (po nm ar (.slice (some ⟨gw, 0, none⟩) xs.length cw))) (And.intro (hco.below hba) (below_on (below_on H1.out.2 hb2) hba))))
       obtain ⟨p0, p1, p2, -⟩ := vfacts H2.out.1
       clear hcw hgw hkw hat hb2 hco hba))
    | (go_at_call 7
       refine (HEN.out _ (HH.out.below H2.out.2.2.2)).mono ?_
       rintro e w3 (⟨h5, -⟩ | ⟨-, gl, rfl, hol, hgl, hb3⟩)
       · exact absurd HCK.out h5
       have H3 := hid (And.intro (blk_of hb3 H2.out.1 (lt_of H2.out.1)) (And.intro (blk_of hb3 H2.out.2.1 (lt_of H2.out.2.1)) (And.intro (H2.out.2.2.1.below hb3) (And.intro hol (below_on H2.out.2.2.2 hb3)))))
       clear hol hgl hb3)
    | (at_builtin
       refine wpList_append_sn _ rfl (.tmp 51) (.tmp 52) rfl w3.heap.size (.slice (some ⟨w3.heap.size, 0, none⟩) 0 0) 0 [] rfl ⟨by simp, .inr ⟨w3.heap.size, 0, #[], rfl, Nat.le_refl _, heap_alloc_new w3 _, Nat.le_refl _, by decide, by simp, by simp⟩⟩ _ bs rfl (sn_of_owns ((H3.out.2.2.2.1.owns (B := 0) (Nat.zero_le _) (by unfold maxLen; omega)).alloc _)) (by omega) (by simp) ?_
       intro ao4 c4 w4 ho4 hg4
       rw [Nat.zero_add, List.nil_append] at ho4
       rw [Nat.zero_add]
       have hb4 : Below w3.heap.size w3 w4 := (below1 w3 (.cells #[] 5)).grown hg4 (by simp) (by intro k hk; simp [Value.ownBlock] at hk; omega)
       have H4 : Hid (Pb w w4 nm ar (.slice ao xs.length cap) w2.heap.size gw cw gl (.slice ao4 bs.length c4) xs bs) := hid ⟨blk_of hb4 H3.out.1 (lt_of H3.out.1), blk_of hb4 H3.out.2.1 (lt_of H3.out.2.1), H3.out.2.2.1.below hb4, blk_of hb4 H3.out.2.2.2.1 (lt_of H3.out.2.2.2.1), sl_of_owns ho4, below_on H3.out.2.2.2.2 hb4⟩
       clear ho4 hg4 hb4))
  clear H0 H1 H2 H3 HC HTW HRF hd0 p0 p1 p2
  refine cutG (fun W => Pb w W nm ar (.slice ao xs.length cap) w2.heap.size gw cw gl (.slice ao4 bs.length c4) xs bs) H4.out ?_
  intro w5 H5
  have H5 := hid H5
  clear H4
  generalize w2.heap.size = rw5 at H5 ⊢
  have HS0 := hid (sb_start w5 (fun _ => bs) (fun _ => xs))
  go_upto_region 12 with fail
  refine cutG (fun W => ∃ ra rc, ra = w5.heap.size ∧ rc = w5.heap.size + 1 ∧ Sb w5 W ra rc (fun _ => 0) (fun _ => 0) (fun _ => .slice none 0 0) (fun _ => .slice none 0 0) (fun _ => bs) (fun _ => xs) 0) ⟨_, _, rfl, rfl, HS0.out⟩ ?_
  rintro w6 ⟨ra, rc, hra, hrc, HS⟩
  have HS := hid HS
  rw [← hrc, ← hra]
  clear HS0 hra hrc
  go_wp2
  go_loopw [11] (fun ix wr => ∃ (n : Nat) (g c : Nat → Nat) (f h : Nat → Value), n ≤ 3 ∧ ix = .int .i64 n ∧ Hid (Sb w5 wr ra rc g c f h (fun _ => bs) (fun _ => xs) n)) (fun ix _ => 3 - (intOf ix).toNat)
  case atStart => exact ⟨0, _, _, _, _, Nat.zero_le _, rfl, HS⟩
  case round =>
    clear HS
    obtain ⟨n, g, c, f, h, hn, rfl, hS⟩ := hrel
    by_cases hlt : n < 3
    · have hlt' : (n : Int) < 3 := by omega
      have hP := hid (H5.out.below hS.out.hb)
      obtain ⟨p0, p1, p2, -⟩ := vfacts hP.out.r0
      go_upto_region 18 with (first
        | (go_at_call 7
           refine (HEN.out _ (HH.out.below hP.out.hb)).mono ?_
           rintro e w7 (⟨h5, -⟩ | ⟨-, gb, rfl, hob, hgb, hb7⟩)
           · exact absurd HCK.out h5
           have H7 := hid (And.intro (hS.out.below hb7) (And.intro (hP.out.below hb7) (And.intro hob (And.intro hgb hb7.size))))
           clear hob hgb hb7)
        | (go_at_call 8
           refine (HD.out _ _ (H7.out.2.1.line (by omega))).mono ?_
           rintro e w8 ⟨hb8, cb, rfl, hcb, hkb, hat8⟩
           have hb9 := below_on hb8 (below1 w8 (po nm ar (.slice (some ⟨cb, 0, none⟩) xs.length xs.length)))
           have hck : Ck w8 cb xs := ⟨hkb, hat8⟩
           have H8 := hid (And.intro (H7.out.1.below hb9) (And.intro (H7.out.2.1.below hb9) (And.intro (blk_of hb9 H7.out.2.2.1 (lt_of H7.out.2.2.1)) (And.intro (hck.same ((below1 w8 (po nm ar (.slice (some ⟨cb, 0, none⟩) xs.length xs.length))).block _ hck.lt)) (And.intro (heap_alloc_new w8 (po nm ar (.slice (some ⟨cb, 0, none⟩) xs.length xs.length))) (And.intro hcb hb8.size))))))
           obtain ⟨p0, p1, p2, -⟩ := vfacts H8.out.2.1.r0
           obtain ⟨q0, q1, q2, -⟩ := vfacts H8.out.2.2.2.2.1
           clear hb8 hkb hat8 hb9 hck hcb)
        | (go_at_call 9
           refine (bytes_same _ _ bs _ (own_sl H8.out.2.2.1 (by omega)) H8.out.2.1.kp (by omega)).mono ?_
           rintro e w9 ⟨hd9, rfl⟩
           have hb9 := hd9.below
           have H9 := hid (And.intro (H8.out.1.below hb9) (And.intro (H8.out.2.1.below hb9) (And.intro (blk_of hb9 H8.out.2.2.1 (lt_of H8.out.2.2.1)) (And.intro (H8.out.2.2.2.1.same (hb9.block _ H8.out.2.2.2.1.lt)) (blk_of hb9 H8.out.2.2.2.2.1 (lt_of H8.out.2.2.2.2.1))))))
           obtain ⟨p0, p1, p2, -⟩ := vfacts H9.out.2.1.r0
           obtain ⟨q0, q1, q2, -⟩ := vfacts H9.out.2.2.2.2
           clear hd9 hb9)
        | (go_at_call 10
           refine (HSM.out _ _ (HH.out.below H9.out.2.1.hb) H9.out.2.2.2.1.code).mono ?_
           rintro e w10 ⟨rfl, hb10⟩
           have H10 := hid (And.intro (H9.out.1.below hb10) (And.intro (blk_of hb10 H9.out.2.2.1 (lt_of H9.out.2.2.1)) (And.intro (H9.out.2.2.2.1.same (hb10.block _ H9.out.2.2.2.1.lt)) (blk_of hb10 H9.out.2.2.2.2 (lt_of H9.out.2.2.2.2)))))
           clear hb10))
      have hrc := lt_of hS.out.hc
      have hlr := hS.out.lr
      have hw7 : wr.heap.size ≤ w7.heap.size := H7.out.2.2.2.2
      have hw8 : w7.heap.size ≤ w8.heap.size := H8.out.2.2.2.2.2.2
      have HNE : Hid ((rc < gb ∧ rc < cb) ∧ ∀ i, i < n → g i ≠ gb ∧ c i ≠ cb) := hid ⟨⟨by have := H7.out.2.2.2.1; omega, by have := H8.out.2.2.2.2.2.1; omega⟩, fun i hi => ⟨by have := lt_of (hS.out.ro i hi); have := H7.out.2.2.2.1; omega, by have := (hS.out.co i hi).lt; have := H8.out.2.2.2.2.2.1; omega⟩⟩
      have d1 := a3_cell H10.out.1.ha hlt
      have d2 := a3_free H10.out.1.ha n
      have d3 := a3_cell H10.out.1.hc hlt
      have d4 := a3_free H10.out.1.hc n
      have m1 : ra ≠ rc := by omega
      have m2 : rc ≠ ra := by omega
      have m3 : w8.heap.size ≠ ra := by omega
      have m4 : w8.heap.size ≠ rc := by omega
      have m5 : ra ≠ w8.heap.size := by omega
      clear p0 p1 p2 q0 q1 q2 hrc hlr hw7 hw8
      obtain ⟨q0, q1, q2, -⟩ := vfacts H10.out.2.2.2
      have HMO := hid (H10.out.1.more hlt H10.out.2.1 H10.out.2.2.1 HNE.out.1 HNE.out.2)
      clear H7 H8 H9 HNE
      go_upto_region 13 with fail
      refine cutG (fun W => ∃ (g c : Nat → Nat) (f h : Nat → Value), Sb w5 W ra rc g c f h (fun _ => bs) (fun _ => xs) (n + 1)) ⟨_, _, _, _, by have := HMO.out; rwa [upd_const, upd_const] at this⟩ ?_
      rintro w11 ⟨g', c', f', h', HS'⟩
      have HS' := hid HS'
      clear HMO H10 d1 d2 d3 d4 m1 m2 m3 m4 m5 q0 q1 q2 hP hS
      go_wp2
      go_roundw
      case rel => first | exact ⟨n + 1, g', c', f', h', by omega, by go_num, HS'⟩ | ((repeat apply Exists.intro); exact ⟨⟨n + 1, g', c', f', h', by omega, by go_num, HS'⟩, rfl⟩)
      case measure => simp [intOf]; omega
    · obtain rfl : n = 3 := by omega
      go_upto_region 21 with fail
      refine cutG (fun W => Sb w5 W ra rc g c f h (fun _ => bs) (fun _ => xs) 3) hS.out ?_
      intro w6' HS
      have HS := hid HS
      clear hS HEN HD hlt hn
      go_wp2
      go_loopw [16] (fun ix wr => ∃ (n : Nat), n ≤ 3 ∧ ix = .int .i64 n ∧ Hid (Sb w5 wr ra rc g c f h (fun _ => bs) (fun _ => xs) 3)) (fun ix _ => 3 - (intOf ix).toNat)
      case atStart => exact ⟨0, Nat.zero_le _, rfl, HS⟩
      case round =>
        clear HS
        rename World => wz
        obtain ⟨n, hn, rfl, hS⟩ := hrel
        by_cases hlt : n < 3
        · have hlt' : (n : Int) < 3 := by omega
          have hP := hid (H5.out.below hS.out.hb)
          obtain ⟨p0, p1, p2, -⟩ := vfacts hP.out.r0
          have d1 := a3_cell hS.out.ha hlt
          have d3 := a3_cell hS.out.hc hlt
          rw [hS.out.fv n hlt] at d1
          rw [hS.out.hv n hlt] at d3
          have hrc := lt_of hS.out.hc
          have HQ := hid (And.intro (below1 wz (po nm ar (.slice (some ⟨c n, 0, none⟩) xs.length xs.length))) (heap_alloc_new wz (po nm ar (.slice (some ⟨c n, 0, none⟩) xs.length xs.length))))
          go_upto_region 25 with fail
          refine cutG (fun W => Sb w5 W ra rc g c f h (fun _ => bs) (fun _ => xs) 3 ∧ Pb w W nm ar (.slice ao xs.length cap) rw5 gw cw gl (.slice ao4 bs.length c4) xs bs ∧ W.heap[wz.heap.size]? = some (po nm ar (.slice (some ⟨c n, 0, none⟩) xs.length xs.length))) ⟨hS.out.below HQ.out.1, hP.out.below HQ.out.1, HQ.out.2⟩ ?_
          rintro w7 ⟨H7, H8, h9⟩
          have H7 := hid (And.intro H7 (And.intro H8 h9))
          clear H8 h9 HQ p0 p1 p2 d1 d3 hrc hP hS
          generalize wz.heap.size = rq at H7 ⊢
          obtain ⟨p0, p1, p2, -⟩ := vfacts H7.out.2.1.r0
          obtain ⟨q0, q1, q2, -⟩ := vfacts H7.out.2.2
          have d1 := a3_cell H7.out.1.ha hlt
          rw [H7.out.1.fv n hlt] at d1
          go_wp2_with (first
            | (go_at_call 9
               refine (bytes_same _ _ bs _ (own_sl (H7.out.1.ro n hlt) (by omega)) H7.out.2.1.kp (by omega)).mono ?_
               rintro e w9 ⟨hd9, rfl⟩
               have hb9 := hd9.below
               have H9 := hid (And.intro (H7.out.1.below hb9) (And.intro (H7.out.2.1.below hb9) (blk_of hb9 H7.out.2.2 (lt_of H7.out.2.2))))
               obtain ⟨p0, p1, p2, -⟩ := vfacts H9.out.2.1.r0
               obtain ⟨q0, q1, q2, -⟩ := vfacts H9.out.2.2
               clear hd9 hb9)
            | (go_at_call 10
               refine (HSM.out _ _ (HH.out.below H9.out.2.1.hb) (H9.out.1.co n hlt).code).mono ?_
               rintro e w10 ⟨rfl, hb10⟩
               have H10 := hid (H9.out.1.below hb10)
               clear hb10))
          go_roundw
          case rel => first | exact ⟨n + 1, by omega, by go_num, H10⟩ | ((repeat apply Exists.intro); exact ⟨⟨n + 1, by omega, by go_num, H10⟩, rfl⟩)
          case measure => simp [intOf]; omega
        · obtain rfl : n = 3 := by omega
          go_upto_region 28 with fail
          refine cutG (fun W => Sb w5 W ra rc g c f h (fun _ => bs) (fun _ => xs) 3) hS.out ?_
          intro w7' HS
          have HS := hid HS
          have HW0 : Hid (Wrt (fun _ => bs) (fun _ => xs) bs.length xs.length 0 0 0) := hid ⟨fun _ _ => ⟨rfl, rfl⟩, fun _ h => absurd h (Nat.not_lt_zero _), fun _ _ h => absurd h (Nat.not_lt_zero _), fun _ _ h => absurd h (Nat.not_lt_zero _)⟩
          clear hS hlt hn
          go_wp2
          go_loopw [18] (fun ix wr => ∃ (n : Nat) (R : Nat → List Int) (X : Nat → List Ins), n ≤ 3 ∧ ix = .int .i64 n ∧ Hid (Sb w5 wr ra rc g c f h R X 3) ∧ Hid (Wrt R X bs.length xs.length n 0 0)) (fun ix _ => 3 - (intOf ix).toNat)
          case atStart => exact ⟨0, _, _, Nat.zero_le _, rfl, HS, HW0⟩
          case round =>
            clear HS HW0
            obtain ⟨n, R0, X0, hn, rfl, hS0, hW0⟩ := hrel
            by_cases hlt : n < 3
            · have hlt' : (n : Int) < 3 := by omega
              go_wp2
              go_loopw [19] (fun iy wq => ∃ (k : Nat) (R : Nat → List Int) (X : Nat → List Ins), k ≤ bs.length ∧ iy = .int .i64 k ∧ Hid (Sb w5 wq ra rc g c f h R X 3) ∧ Hid (Wrt R X bs.length xs.length n k 0)) (fun iy _ => bs.length - (intOf iy).toNat)
              case atStart => exact ⟨0, R0, X0, Nat.zero_le _, rfl, hS0, hW0⟩
              case round =>
                clear hS0 hW0
                obtain ⟨k, R1, X1, hk, rfl, hS1, hW1⟩ := hrel
                have d1 := a3_cell hS1.out.ha hlt
                rw [hS1.out.fv n hlt, (hW1.out.l n hlt).1] at d1
                by_cases hkl : k < bs.length
                · have hkl' : (k : Int) < (bs.length : Int) := by omega
                  obtain ⟨x, hx⟩ : ∃ x, (R1 n)[k]? = some x := ⟨_, List.getElem?_eq_getElem (by have := (hW1.out.l n hlt).1; omega)⟩
                  have c1 := own_cell (hS1.out.ro n hlt) hx
                  have f1 := own_free (hS1.out.ro n hlt) k
                  have u1 : IntKind.u8.wrap (10 + (n : Int)) = 10 + (n : Int) := by rw [IntKind.wrap_u8]; omega
                  have u2 := w10 (n := n) hlt
                  clear hx
                  go_wp2
                  clear u1 u2 c1 f1 d1
                  go_roundw
                  case rel => first | exact ⟨k + 1, _, X1, by omega, by go_num, hid (hS1.out.setR hlt k (10 + (n : Int))), hid (hW1.out.byte hlt hkl)⟩ | ((repeat apply Exists.intro); exact ⟨⟨k + 1, _, X1, by omega, by go_num, hid (hS1.out.setR hlt k (10 + (n : Int))), hid (hW1.out.byte hlt hkl)⟩, rfl⟩)
                  case measure => simp [intOf]; omega
                · obtain rfl : k = bs.length := by omega
                  go_wp2
                  clear d1
                  go_loopw [20] (fun iz wp => ∃ (m : Nat) (R : Nat → List Int) (X : Nat → List Ins), m ≤ xs.length ∧ iz = .int .i64 m ∧ Hid (Sb w5 wp ra rc g c f h R X 3) ∧ Hid (Wrt R X bs.length xs.length n bs.length m)) (fun iz _ => xs.length - (intOf iz).toNat)
                  case atStart => exact ⟨0, R1, X1, Nat.zero_le _, rfl, hS1, hW1⟩
                  case round =>
                    clear hS1 hW1
                    obtain ⟨m, R2, X2, hm, rfl, hS2, hW2⟩ := hrel
                    have d3 := a3_cell hS2.out.hc hlt
                    rw [hS2.out.hv n hlt, (hW2.out.l n hlt).2] at d3
                    by_cases hml : m < xs.length
                    · have hml' : (m : Int) < (xs.length : Int) := by omega
                      obtain ⟨y, hy⟩ : ∃ y, (X2 n)[m]? = some y := ⟨_, List.getElem?_eq_getElem (by have := (hW2.out.l n hlt).2; omega)⟩
                      obtain ⟨y0, y1, y2, y3, y4, y5, y6, y7⟩ := (hS2.out.co n hlt).2 m y hy
                      have f1 := (hS2.out.co n hlt).free
                      have kg := (hS2.out.co n hlt).lt
                      have u2 := w30 (n := n) hlt
                      have HSX := hid (hS2.out.setX hlt (k := m) (by have := (hW2.out.l n hlt).2; omega) (mkO (30 + (n : Int))))
                      clear hy
                      go_upto_region 36 with fail
                      refine cutG (fun W => Sb w5 W ra rc g c f h R2 (upd X2 n ((X2 n).set m (mkO (30 + (n : Int))))) 3) HSX.out ?_
                      intro w8 H8
                      have H8 := hid H8
                      clear HSX y0 y1 y2 y3 y4 y5 y6 y7 f1 kg u2 d3 hS2
                      go_wp2
                      go_roundw
                      case rel => first | exact ⟨m + 1, R2, _, by omega, by go_num, H8, hid (hW2.out.ins hlt hml)⟩ | ((repeat apply Exists.intro); exact ⟨⟨m + 1, R2, _, by omega, by go_num, H8, hid (hW2.out.ins hlt hml)⟩, rfl⟩)
                      case measure => simp [intOf]; omega
                    · obtain rfl : m = xs.length := by omega
                      go_wp2
                      go_roundw
                      case rel => first | exact ⟨n + 1, R2, X2, by omega, by go_num, hS2, hid hW2.out.next⟩ | ((repeat apply Exists.intro); exact ⟨⟨n + 1, R2, X2, by omega, by go_num, hS2, hid hW2.out.next⟩, rfl⟩)
                      case measure => simp [intOf]; omega
            · obtain rfl : n = 3 := by omega
              have HE0 := hid (se_start hS0.out hW0.out)
              go_upto_region 41 with fail
              refine cutG (fun W => ∃ rl rm, rl = wr.heap.size ∧ rm = wr.heap.size + 1 ∧ Se w5 W ra rc g c f h R0 X0 rl rm (fun _ => .slice none 0 0) (fun _ => .slice none 0 0) bs.length xs.length 0) ⟨_, _, rfl, rfl, HE0.out⟩ ?_
              rintro w9 ⟨rl, rm, hrl, hrm, HS⟩
              have HS := hid HS
              rw [← hrm, ← hrl]
              clear HE0 hrl hrm hS0 hW0 hlt hn
              go_wp2
              go_loopw [23] (fun ix wq => ∃ (n : Nat) (lf lh : Nat → Value), n ≤ 3 ∧ ix = .int .i64 n ∧ Hid (Se w5 wq ra rc g c f h R0 X0 rl rm lf lh bs.length xs.length n)) (fun ix _ => 3 - (intOf ix).toNat)
              case atStart => exact ⟨0, _, _, Nat.zero_le _, rfl, HS⟩
              case round =>
                clear HS
                rename World => wa
                obtain ⟨n, lf, lh, hn, rfl, hS⟩ := hrel
                by_cases hlt : n < 3
                · have hlt' : (n : Int) < 3 := by omega
                  have d1 := a3_cell hS.out.sb.ha hlt
                  rw [hS.out.sb.fv n hlt, (hS.out.wt.l n hlt).1] at d1
                  have d3 := a3_cell hS.out.sb.hc hlt
                  rw [hS.out.sb.hv n hlt, (hS.out.wt.l n hlt).2] at d3
                  have HG1 := hid (gr_row hS.out hlt (by omega))
                  have HG2 := hid (gr_code hS.out hlt (by omega))
                  go_wp2
                  clear d1 d3
                  go_loopw [24, 25, 26] (fun v24 v25 iy wb => ∃ (k : Nat) (a1 : Option Addr) (k1 : Nat) (a2 : Option Addr) (k2 : Nat), k ≤ 70 ∧ v24 = .slice a1 (bs.length + k) k1 ∧ v25 = .slice a2 (xs.length + k) k2 ∧ iy = .int .i64 k ∧ Hid (Below wa.heap.size wa wb) ∧ Hid (Gr wb wa.heap.size 5 1 (.slice a1 (bs.length + k) k1) (bs.length + k) (B8 (lrow bs.length n k))) ∧ Hid (Gr wb wa.heap.size 42 8 (.slice a2 (xs.length + k) k2) (xs.length + k) ((lcode xs.length n k).flatMap Ins.cells)) ∧ Hid (0 < k → wb.ownsRow wa.heap.size 5 1 (.slice a1 (bs.length + k) k1) (bs.length + k) (B8 (lrow bs.length n k)) ∧ wb.ownsRow wa.heap.size 42 8 (.slice a2 (xs.length + k) k2) (xs.length + k) ((lcode xs.length n k).flatMap Ins.cells))) (fun _ _ iy _ => 70 - (intOf iy).toNat)
                  case atStart => exact ⟨0, _, _, _, _, Nat.zero_le _, rfl, rfl, rfl, hid (Below.refl _ _), HG1, HG2, hid (fun h => absurd h (Nat.lt_irrefl _))⟩
                  case round =>
                    clear HG1 HG2
                    rename World => wb
                    obtain ⟨k, a1, k1, a2, k2, hk, rfl, rfl, rfl, hB, hG1, hG2, hO⟩ := hrel
                    by_cases hkl : k < 70
                    · have hkl' : (k : Int) < 70 := by omega
                      have u1 : IntKind.u8.wrap (100 + (n : Int)) = 100 + (n : Int) := by rw [IntKind.wrap_u8]; omega
                      have u2 := w100 (n := n) hlt
                      have u3 := w60 (n := n) hlt
                      have hsz := hB.out.size
                      go_wp2_with (first
                        | (at_builtin
                           refine wpList_append_gr _ rfl (.tmp 164) (.tmp 168) 30 5 (.int .u8 0) 1 1 rfl Try.underlying30 Try.info5 rfl (by decide) wa.heap.size _ (bs.length + k) _ rfl (hG1.out.alloc _) wb.heap.size 1 (B8 [100 + (n : Int)]) rfl (rfb_new wb _) (by omega) (by unfold maxLen; omega) (by simp; omega) ?_
                           intro ao3 c3 w3 hown hwro
                           have H3 := hid (And.intro hown.out hwro.out)
                           have HG3 := hid ((hG2.out.alloc (.cells #[.int .u8 (100 + (n : Int))] 5)).other hwro.out (by decide))
                           have hz3 : wa.heap.size ≤ w3.heap.size := by have := hwro.out.size; simp at this; omega
                           clear hown hwro)
                        | (at_builtin
                           refine wpList_append_gr _ rfl (.tmp 170) (.tmp 174) 22 42 (.agg zCells) 8 72 rfl Try.underlying22 Try.info28z rfl (by decide) wa.heap.size _ (xs.length + k) _ rfl (HG3.out.alloc _) w3.heap.size 1 ([mkO (60 + (n : Int))].flatMap Ins.cells) rfl (rf_new w3 (mkO (60 + (n : Int)))) (by omega) (by unfold maxLen; omega) (by simp; omega) ?_
                           intro ao4 c4' w4 hown hwro
                           have H4 := hid (And.intro hown.out hwro.out)
                           clear hown hwro))
                      have HST := hid (gr_step hB.out H3.out H4.out)
                      clear u1 u2 u3 hsz hz3 H3 H4 HG3 hG1 hG2 hO hB
                      go_roundw
                      case rel => first | exact ⟨k + 1, ao3, c3, ao4, c4', by omega, rfl, rfl, by go_num, hid HST.out.1, hid (.inl HST.out.2.1), hid (.inl HST.out.2.2), hid (fun _ => HST.out.2)⟩ | ((repeat apply Exists.intro); exact ⟨⟨k + 1, ao3, c3, ao4, c4', by omega, rfl, rfl, by go_num, hid HST.out.1, hid (.inl HST.out.2.1), hid (.inl HST.out.2.2), hid (fun _ => HST.out.2)⟩, rfl⟩)
                      case measure => simp [intOf]; omega
                    · obtain rfl : k = 70 := by omega
                      have HS2 := hid (hS.out.below hB.out)
                      have HMO := hid (hS.out.more hlt hB.out (hO.out (by omega)).1 (hO.out (by omega)).2)
                      have d1 := a3_cell HS2.out.ha hlt
                      have d2 := a3_free HS2.out.ha n
                      have d3 := a3_cell HS2.out.hc hlt
                      have d4 := a3_free HS2.out.hc n
                      have m1 : rl ≠ rm := by have := hS.out.lt; omega
                      have m2 : rm ≠ rl := by have := hS.out.lt; omega
                      clear hG1 hG2 hO hB HS2 hkl hk
                      go_upto_region 42 with fail
                      refine cutG (fun W => ∃ (lf lh : Nat → Value), Se w5 W ra rc g c f h R0 X0 rl rm lf lh bs.length xs.length (n + 1)) ⟨_, _, HMO.out⟩ ?_
                      rintro w11 ⟨lf', lh', HS'⟩
                      have HS' := hid HS'
                      clear HMO d1 d2 d3 d4 m1 m2 hS
                      go_wp2
                      go_roundw
                      case rel => first | exact ⟨n + 1, lf', lh', by omega, by go_num, HS'⟩ | ((repeat apply Exists.intro); exact ⟨⟨n + 1, lf', lh', by omega, by go_num, HS'⟩, rfl⟩)
                      case measure => simp [intOf]; omega
                · obtain rfl : n = 3 := by omega
                  refine cutG (fun W => Se w5 W ra rc g c f h R0 X0 rl rm lf lh bs.length xs.length 3) hS.out ?_
                  intro w12 HS
                  have HS := hid HS
                  clear hS hlt hn
                  go_upto_region 53 with fail
                  go_wp2
                  go_loopw [27] (fun ix wq => ∃ (n : Nat), n ≤ 3 ∧ ix = .int .i64 n ∧ Hid (Se w5 wq ra rc g c f h R0 X0 rl rm lf lh bs.length xs.length 3)) (fun ix _ => 3 - (intOf ix).toNat)
                  case atStart => exact ⟨0, Nat.zero_le _, rfl, HS⟩
                  case round =>
                    clear HS
                    rename World => wa
                    obtain ⟨n, hn, rfl, hS⟩ := hrel
                    by_cases hlt : n < 3
                    · have hlt' : (n : Int) < 3 := by omega
                      go_wp2
                      go_loopw [28] (fun iy wb => ∃ (k : Nat), k ≤ bs.length + 70 ∧ iy = .int .i64 k ∧ Hid (Se w5 wb ra rc g c f h R0 X0 rl rm lf lh bs.length xs.length 3)) (fun iy _ => bs.length + 70 - (intOf iy).toNat)
                      case atStart => exact ⟨0, Nat.zero_le _, rfl, hS⟩
                      case round =>
                        clear hS
                        rename World => wb
                        obtain ⟨k, hk, rfl, hS⟩ := hrel
                        have d1 := a3_cell hS.out.sb.ha hlt
                        rw [hS.out.sb.fv n hlt, (hS.out.wt.l n hlt).1] at d1
                        obtain ⟨b1, o1, cp1, e1, hat1⟩ := row_at (hS.out.ro n hlt)
                        have d5 := a3_cell hS.out.ha hlt
                        rw [e1] at d5
                        have HAT := hid hat1
                        clear e1 hat1
                        by_cases hkl : k < bs.length + 70
                        · have hkl' : (k : Int) < (bs.length : Int) + 70 := by omega
                          have c2 := HAT.out k hkl
                          have u1 : IntKind.u8.wrap (10 + (n : Int)) = 10 + (n : Int) := by rw [IntKind.wrap_u8]; omega
                          have u2 := w10 (n := n) hlt
                          have u3 : IntKind.u8.wrap (100 + (n : Int)) = 100 + (n : Int) := by rw [IntKind.wrap_u8]; omega
                          have u4 := w100 (n := n) hlt
                          by_cases hkb : k < bs.length
                          · rw [if_pos hkb] at c2
                            have hkb' : (k : Int) < (bs.length : Int) := by omega
                            have hge : decide ((bs.length : Int) ≤ (k : Int)) = false := by simp; omega
                            have c1 := own_cell (hS.out.sb.ro n hlt) ((hS.out.wt.a n hlt hlt).1 k hkb)
                            clear HAT
                            go_wp2
                            clear u1 u2 u3 u4 c1 c2 d1 d5
                            go_roundw
                            case rel => first | exact ⟨k + 1, by omega, by go_num, hS⟩ | ((repeat apply Exists.intro); exact ⟨⟨k + 1, by omega, by go_num, hS⟩, rfl⟩)
                            case measure => simp [intOf]; omega
                          · rw [if_neg hkb] at c2
                            have hge : (bs.length : Int) ≤ (k : Int) := by omega
                            have hlk : decide ((k : Int) < (bs.length : Int)) = false := by simp; omega
                            clear HAT
                            go_wp2
                            clear u1 u2 u3 u4 c2 d1 d5
                            go_roundw
                            case rel => first | exact ⟨k + 1, by omega, by go_num, hS⟩ | ((repeat apply Exists.intro); exact ⟨⟨k + 1, by omega, by go_num, hS⟩, rfl⟩)
                            case measure => simp [intOf]; omega
                        · obtain rfl : k = bs.length + 70 := by omega
                          go_wp2
                          clear d1 d5 HAT hkl hk
                          go_loopw [30] (fun iz wc => ∃ (m : Nat), m ≤ xs.length + 70 ∧ iz = .int .i64 m ∧ Hid (Se w5 wc ra rc g c f h R0 X0 rl rm lf lh bs.length xs.length 3)) (fun iz _ => xs.length + 70 - (intOf iz).toNat)
                          case atStart => exact ⟨0, Nat.zero_le _, rfl, hS⟩
                          case round =>
                            clear hS
                            rename World => wc
                            obtain ⟨m, hm, rfl, hS⟩ := hrel
                            have d3 := a3_cell hS.out.sb.hc hlt
                            rw [hS.out.sb.hv n hlt, (hS.out.wt.l n hlt).2] at d3
                            obtain ⟨b1, o1, cp1, e1, hat1⟩ := code_at (hS.out.co n hlt)
                            have d5 := a3_cell hS.out.hc hlt
                            rw [e1] at d5
                            have HAT := hid hat1
                            clear e1 hat1
                            by_cases hml : m < xs.length + 70
                            · have hml' : (m : Int) < (xs.length : Int) + 70 := by omega
                              have c2 := HAT.out m hml
                              have u2 := w30 (n := n) hlt
                              have u4 := w60 (n := n) hlt
                              by_cases hmb : m < xs.length
                              · rw [if_pos hmb] at c2
                                have hmb' : (m : Int) < (xs.length : Int) := by omega
                                have hge : decide ((xs.length : Int) ≤ (m : Int)) = false := by simp; omega
                                have c1 := ((hS.out.sb.co n hlt).2 m _ ((hS.out.wt.a n hlt hlt).2 m hmb)).1
                                unfold mkO at c1
                                dsimp only at c1
                                clear HAT
                                go_wp2
                                clear u2 u4 c1 c2 d3 d5
                                go_roundw
                                case rel => first | exact ⟨m + 1, by omega, by go_num, hS⟩ | ((repeat apply Exists.intro); exact ⟨⟨m + 1, by omega, by go_num, hS⟩, rfl⟩)
                                case measure => simp [intOf]; omega
                              · rw [if_neg hmb] at c2
                                have hge : (xs.length : Int) ≤ (m : Int) := by omega
                                have hlk : decide ((m : Int) < (xs.length : Int)) = false := by simp; omega
                                clear HAT
                                go_wp2
                                clear u2 u4 c2 d3 d5
                                go_roundw
                                case rel => first | exact ⟨m + 1, by omega, by go_num, hS⟩ | ((repeat apply Exists.intro); exact ⟨⟨m + 1, by omega, by go_num, hS⟩, rfl⟩)
                                case measure => simp [intOf]; omega
                            · obtain rfl : m = xs.length + 70 := by omega
                              go_wp2
                              go_roundw
                              case rel => first | exact ⟨n + 1, by omega, by go_num, hS⟩ | ((repeat apply Exists.intro); exact ⟨⟨n + 1, by omega, by go_num, hS⟩, rfl⟩)
                              case measure => simp [intOf]; omega
                    · obtain rfl : n = 3 := by omega
                      have hP := hid (H5.out.below hS.out.sb.hb)
                      obtain ⟨p0, p1, p2, -⟩ := vfacts hP.out.r0
                      obtain ⟨q0, q1, q2, -⟩ := vfacts hP.out.r5
                      go_wp2_with (first
                        | (go_at_call 9
                           refine (bytes_same _ _ bs _ (hP.out.line (by omega)) hP.out.kp (by omega)).mono ?_
                           rintro e w20 ⟨hd20, rfl⟩
                           have H20 := hid (hP.out.below hd20.below)
                           obtain ⟨p0, p1, p2, -⟩ := vfacts H20.out.r0
                           obtain ⟨q0, q1, q2, -⟩ := vfacts H20.out.r5
                           clear hd20)
                        | (go_at_call 10
                           refine (HSM.out _ _ (HH.out.below H20.out.hb) H20.out.tc).mono ?_
                           rintro e w21 ⟨rfl, hb21⟩
                           have H21 := hid (below_on H20.out.hb hb21)
                           clear hb21)
                        | (go_at_call 5
                           refine (known_any _).mono ?_
                           rintro e w22 ⟨rfl, hb22⟩
                           have H22 := hid (below_on H21.out hb22)
                           clear hb22))
                      go_ret
                      exact ⟨rfl, H22.out⟩

end Go.Proofs.Ytljfmbjibjoiiab
