import Derived.Test.YtdnlfacfleemeaaK27
namespace Go.Proofs.Ytdnlfacfleemeaa.O
open Go.RowKit Go.Lib

/-- What the law holds against: the batch, its twin, the line and its copy. -/
structure Pb (w W : World) (f : Int) (S : Value) (rq tb c B : Nat) (zs : List Tx2) (gl : Nat) (kv : Value) (ts : List Txd) (bs : List Int) : Prop where
  r1 : W.heap[w.heap.size]? = some (bo f S)
  r5 : W.heap[rq]? = some (bo f (.slice (some ⟨tb, 0, none⟩) ts.length c))
  tn : Tn B W tb c zs ts
  ln : Own W gl bs
  kp : Sl W kv bs
  hb : Below w.heap.size w W

theorem Pb.below {w W W' : World} {f : Int} {S : Value} {rq tb c B : Nat} {zs : List Tx2} {gl : Nat} {kv : Value} {ts : List Txd} {bs : List Int} (h : Pb w W f S rq tb c B zs gl kv ts bs) (hb : Below W.heap.size W W') : Pb w W' f S rq tb c B zs gl kv ts bs :=
  ⟨blk_of hb h.r1 (lt_of h.r1), blk_of hb h.r5 (lt_of h.r5), h.tn.below hb, blk_of hb h.ln (lt_of h.ln), h.kp.below hb, below_on h.hb hb⟩

theorem bytes_same (a b : Value) (xs : List Int) (w : World) (ha : Sl w a xs) (hb : Sl w b xs) (hl : xs.length ≤ 1000000000) :
    Calls Try.prog 13 #[a, b] w fun x w' => DN w w' ∧ x = .returned (.bool true) := by
  have := bytes_any a b xs xs w ha hb hl
  rwa [show decide (xs = xs) = true by simp] at this

theorem Try.info34z : (Try.prog.info? 34).map (fun i => (i.zero, i.size, i.bytes)) = some (some (.slice none 0 0), 1, 24) := by kernel_rfl
theorem Try.info24z : (Try.prog.info? 24).map (fun i => (i.zero, i.size, i.bytes)) = some (some (.agg #[.int .i64 0, .slice none 0 0]), 2, 32) := by kernel_rfl
theorem Try.info28h : (Try.prog.info? 28).map (fun i => (i.zero, i.size, i.bytes)) = some (some (.slice none 0 0), 1, 24) := by kernel_rfl
theorem Try.info25h : (Try.prog.info? 25).map (fun i => (i.zero, i.size, i.bytes)) = some (some (.slice none 0 0), 1, 24) := by kernel_rfl
theorem Try.info22h : (Try.prog.info? 22).map (fun i => (i.zero, i.size, i.bytes)) = some (some (.slice none 0 0), 1, 24) := by kernel_rfl

theorem rf_two (w : World) (f : Int) (v : Value) (h1 : v.oneCell' = true) : Rf (w.alloc (.cells #[.int .i64 f, v] 24)) 2 (.slice (some ⟨w.heap.size, 0, none⟩) 1 1) 1 [.int .i64 f, v] := by
  have h : (w.alloc (.cells #[.int .i64 f, v] 24)).ownsRow 0 24 2 (.slice (some ⟨w.heap.size, 0, none⟩) 1 1) 1 [.int .i64 f, v] := ⟨by simp, .inr ⟨w.heap.size, 1, _, rfl, Nat.zero_le _, heap_alloc_new w _, Nat.le_refl _, by decide, by simp, by simp⟩⟩
  exact rf_of_owns h (by intro u hu; simp at hu; rcases hu with rfl | rfl; rfl; exact h1)

theorem own_hd2 {W : World} {B : Nat} {v : Value} {f : Int} {n : Nat} {x : Nat → Nat} (h : W.ownsRow B 24 2 v 3 ((List.range 3).flatMap (fun j => [.int .i64 f, sx (x j) n]))) : ∃ b c, v = .slice (some ⟨b, 0, none⟩) 3 c ∧ 3 ≤ c ∧ Hd W 24 b 2 0 3 (fun _ => .int .i64 f) ∧ Hd W 24 b 2 1 3 (fun j => sx (x j) n) := by
  have hr := rf_of_owns h (fun u hu => by obtain ⟨i, _, hi⟩ := List.mem_flatMap.1 hu; simp at hi; rcases hi with rfl | rfl <;> rfl)
  rcases h.2 with ⟨_, hn⟩ | ⟨g, cap, cur, rfl, hb, hg, hc, _⟩
  · omega
  · have hf := fun i c (hc : c < 2) => flat_get (fun j => [Value.int .i64 f, sx (x j) n]) 2 (fun _ => rfl) (List.range 3) i c hc
    refine ⟨g, cap, rfl, hc, ⟨⟨_, hg⟩, fun i hi => rf_cell hr ?_⟩, ⟨⟨_, hg⟩, fun i hi => rf_cell hr ?_⟩⟩
    · rw [hf i 0 (by decide)]; simp [hi]
    · rw [hf i 1 (by decide)]; simp [hi]

theorem w10 {n : Nat} (h : n < 3) : wrap64 (10 + (n : Int)) = 10 + (n : Int) := by unfold wrap64; omega
theorem w100 {n : Nat} (h : n < 3) : wrap64 (100 + (n : Int)) = 100 + (n : Int) := by unfold wrap64; omega
theorem w1000 {n : Nat} (h : n < 1000) : wrap64 (1000 + (n : Int)) = 1000 + (n : Int) := by unfold wrap64; omega
theorem w5000 {n : Nat} (h : n < 1000) : wrap64 (5000 + (n : Int)) = 5000 + (n : Int) := by unfold wrap64; omega

theorem Gr.len {w : World} {B : Nat} {e : TypeId} {m : Nat} {v : Value} {n : Nat} {cs : List Value} (h : Gr w B e m v n cs) : cs.length = n * m := by
  rcases h with h | ⟨_, _, _, h, _⟩
  · exact h.1
  · exact h
theorem rf_six (w : World) (x : Int) : Rf (w.alloc (.cells #[.int .i64 x, .string emp, .int .i64 0, .slice none 0 0, .string emp, .slice none 0 0] 30)) 6 (.slice (some ⟨w.heap.size, 0, none⟩) 1 1) 1 [.int .i64 x, .string emp, .int .i64 0, .slice none 0 0, .string emp, .slice none 0 0] := by
  have h : (w.alloc (.cells #[.int .i64 x, .string emp, .int .i64 0, .slice none 0 0, .string emp, .slice none 0 0] 30)).ownsRow 0 30 6 (.slice (some ⟨w.heap.size, 0, none⟩) 1 1) 1 [.int .i64 x, .string emp, .int .i64 0, .slice none 0 0, .string emp, .slice none 0 0] := ⟨by simp, .inr ⟨w.heap.size, 1, _, rfl, Nat.zero_le _, heap_alloc_new w _, Nat.le_refl _, by decide, by simp, by simp⟩⟩
  exact rf_of_owns h (by intro u hu; simp at hu; rcases hu with rfl | rfl | rfl | rfl | rfl | rfl <;> rfl)
theorem rf_3v (w : World) (x : Int) : Rf (w.alloc (.cells #[.int .i64 x, .int .i64 0, .string emp] 50)) 3 (.slice (some ⟨w.heap.size, 0, none⟩) 1 1) 1 [.int .i64 x, .int .i64 0, .string emp] := by
  have h : (w.alloc (.cells #[.int .i64 x, .int .i64 0, .string emp] 50)).ownsRow 0 50 3 (.slice (some ⟨w.heap.size, 0, none⟩) 1 1) 1 [.int .i64 x, .int .i64 0, .string emp] := ⟨by simp, .inr ⟨w.heap.size, 1, _, rfl, Nat.zero_le _, heap_alloc_new w _, Nat.le_refl _, by decide, by simp, by simp⟩⟩
  exact rf_of_owns h (by intro u hu; simp at hu; rcases hu with rfl | rfl | rfl <;> rfl)
theorem rf_8i (w : World) (x : Int) : Rf (w.alloc (.cells #[.int .i64 x, .int .i64 0, .int .i64 0, .int .i64 0, .int .i64 0, .int .i64 0, .int .i64 0, .string emp] 52)) 8 (.slice (some ⟨w.heap.size, 0, none⟩) 1 1) 1 [.int .i64 x, .int .i64 0, .int .i64 0, .int .i64 0, .int .i64 0, .int .i64 0, .int .i64 0, .string emp] := by
  have h : (w.alloc (.cells #[.int .i64 x, .int .i64 0, .int .i64 0, .int .i64 0, .int .i64 0, .int .i64 0, .int .i64 0, .string emp] 52)).ownsRow 0 52 8 (.slice (some ⟨w.heap.size, 0, none⟩) 1 1) 1 [.int .i64 x, .int .i64 0, .int .i64 0, .int .i64 0, .int .i64 0, .int .i64 0, .int .i64 0, .string emp] := ⟨by simp, .inr ⟨w.heap.size, 1, _, rfl, Nat.zero_le _, heap_alloc_new w _, Nat.le_refl _, by decide, by simp, by simp⟩⟩
  exact rf_of_owns h (by intro u hu; simp at hu; rcases hu with rfl | rfl | rfl <;> rfl)
theorem gi_both {wa wb w3 w4 : World} {e1 e2 : TypeId} {o1 o2 : Obj} (hB : Below wa.heap.size wa wb) (h3 : Wro wa.heap.size e1 (wb.alloc o1) w3) (h4 : Wro wa.heap.size e2 (w3.alloc o2) w4) : Below wa.heap.size wa w4 := by
  have b1 := below_on hB (below1 wb o1)
  have b2 := b1.trans (h3.below b1.size)
  have b3 := below_on b2 (below1 w3 o2)
  exact b3.trans (h4.below b3.size)

theorem sma_shrt {bs : List Int} {ts : List Txd} (h : Sma ts) (hb : bs.length ≤ 65536) : Shrt bs ts := ⟨by omega, by have := h.1; omega, fun t ht => by have := h.2 t ht; omega⟩

set_option maxRecDepth 100000 in
set_option maxHeartbeats 64000000 in
theorem own_ok (f : Int) (S : Value) (ys : List Tx2) (w : World) (h : BatR w S ys) (hs : Sma (ys.map Tx2.t)) (bs : List Int) (hR : batE f (ys.map Tx2.t) = .ok bs) :
    Calls Try.prog 5 #[.agg #[.int .i64 f, S]] w fun e w' => e = .returned (.bool true) ∧ Below w.heap.size w w' := by
  have HB := hid h
  have HTS := hid h.ts
  have HSA := hid hs
  have ho : ∀ t ∈ ys.map Tx2.t, TxOk t := by
    intro t ht
    obtain ⟨y, hy, rfl⟩ := List.mem_map.1 ht
    exact (h.2 y hy).2.2
  have HO := hid ho
  have hl3 : ys.length ≤ 300 := by have := hs.1; rwa [List.length_map] at this
  have HL1 := hid (fun W (hb : Below w.heap.size w W) => long_any 0 f S (ys.map Tx2.t) W (HTS.out.below hb))
  unfold LgP at HL1
  rw [decide_eq_true hs] at HL1
  have HE := hid (fun W (hb : Below w.heap.size w W) => bencode_any 0 f S (ys.map Tx2.t) W (HTS.out.below hb) (sma_L HSA.out) (by rw [List.length_map]; omega) HO.out)
  have HTW := hid (fun W (hb : Below w.heap.size w W) => twin_any f S ys W (HB.out.below hb) HSA.out)
  obtain ⟨ao, cap, rfl, -⟩ := h.1.shape
  obtain ⟨ts, hts⟩ : ∃ ts, ts = ys.map Tx2.t := ⟨_, rfl⟩
  have hly : ys.length = ts.length := by rw [hts, List.length_map]
  rw [← hts] at HSA HO HTS HE HTW hR
  rw [hly] at HTS HL1 HE HTW hl3 ⊢
  clear h hs ho HB hts hly
  obtain ⟨b1, b2, b3⟩ := batE_ok hR
  have hdec := dec_batB f ts b1 HO.out b2
  rw [← b3] at hdec b2
  obtain ⟨-, -, lo, lh, -, -⟩ := batChk_good f ts b1
  have hoct : Oct bs := by
    rw [b3]
    exact batB_oct f ts b1 HO.out
  have HE2 := hid (fun W v (h : TsAt 0 W v ts) => bencode_any 0 f v ts W h (sma_L HSA.out) (by omega) HO.out)
  rw [hR] at HE HE2
  unfold BEnc at HE HE2
  dsimp only at HE HE2
  have HD := hid (fun v W hW => bdecode_any v bs W hW hoct)
  rw [hdec] at HD
  unfold DB at HD
  dsimp only at HD
  unfold TwB at HTW
  have HSm := hid (fun W S1 S2 h1 h2 => bsame_any 0 0 f S1 ts f S2 ts W h1 h2 (sma_L HSA.out) (by omega))
  rw [decide_eq_true (And.intro rfl rfl)] at HSm
  have HSH := hid (sma_shrt HSA.out b2)
  have hn0 : 0 < ts.length := by omega
  have H0 := hid (And.intro (heap_alloc_new w (bo f (.slice ao ts.length cap))) (below1 w (bo f (.slice ao ts.length cap))))
  clear hR b1 b3 hdec hoct lo lh
  go_enter Try.func5, Try.ntmps5
  go_upto_region 10 with (first
    | (go_at_call 6
       refine (HL1.out _ H0.out.2).mono ?_
       rintro e w1 ⟨rfl, hb1⟩
       have H1 := hid (And.intro (blk_of hb1 H0.out.1 (lt_of H0.out.1)) (below_on H0.out.2 hb1))
       obtain ⟨p0, p1, -⟩ := vfacts2 H1.out.1
       clear hb1)
    | (go_at_call 8
       refine (HE.out _ H1.out.2).mono ?_
       rintro e w2 ⟨hb2, gl, rfl, hol, hgl⟩
       have H2 := hid (And.intro (blk_of hb2 H1.out.1 (lt_of H1.out.1)) (And.intro hol (below_on H1.out.2 hb2)))
       obtain ⟨p0, p1, -⟩ := vfacts2 H2.out.1
       clear hb2 hol hgl)
    | (go_at_call 12
       refine (HTW.out _ H2.out.2.2).mono ?_
       rintro e w3 ⟨zs, tb, c, cur, rfl, hz7, hc7, hB7, hk7, hat7, hzl7, hb7⟩
       have hba := below1 w3 (bo f (.slice (some ⟨tb, 0, none⟩) ts.length c))
       have htn : Tn w2.heap.size w3 tb c zs ts := ⟨hz7, hc7, hB7, ⟨cur, hk7⟩, hat7, hzl7⟩
       have hb8 := below_on hb7 hba
       have H3 := hid (And.intro (blk_of hb8 H2.out.1 (lt_of H2.out.1)) (And.intro (heap_alloc_new w3 (bo f (.slice (some ⟨tb, 0, none⟩) ts.length c))) (And.intro (htn.below hba) (And.intro (blk_of hb8 H2.out.2.1 (lt_of H2.out.2.1)) (below_on H2.out.2.2 hb8)))))
       clear hz7 hc7 hB7 hk7 hat7 hzl7 hb7 hba htn hb8)
    | (at_builtin
       refine wpList_append_sn _ rfl (.tmp 59) (.tmp 60) rfl (w3.heap.size + 1) (.slice (some ⟨w3.heap.size + 1, 0, none⟩) 0 0) 0 [] rfl ⟨by simp, .inr ⟨w3.heap.size + 1, 0, #[], rfl, Nat.le_refl _, two2 w3 _ _, Nat.le_refl _, by decide, by simp, by simp⟩⟩ _ bs rfl (sn_of_owns ((Own.owns (B := 0) H3.out.2.2.2.1 (Nat.zero_le _) (by unfold maxLen; omega)).alloc _)) (by omega) (by simp) ?_
       intro ao4 c4 w4 ho4 hg4
       rw [Nat.zero_add, List.nil_append] at ho4
       rw [Nat.zero_add]
       have hb4 : Below (w3.alloc (bo f (.slice (some ⟨tb, 0, none⟩) ts.length c))).heap.size (w3.alloc (bo f (.slice (some ⟨tb, 0, none⟩) ts.length c))) w4 := (below1 (w3.alloc (bo f (.slice (some ⟨tb, 0, none⟩) ts.length c))) (.cells #[] 5)).grown hg4 (by simp) (by intro k hk; simp [Value.ownBlock] at hk; simp; omega)
       have H4 : Hid (Pb w w4 f (.slice ao ts.length cap) w3.heap.size tb c w2.heap.size zs gl (.slice ao4 bs.length c4) ts bs) := hid ⟨blk_of hb4 H3.out.1 (lt_of H3.out.1), blk_of hb4 H3.out.2.1 (lt_of H3.out.2.1), H3.out.2.2.1.below hb4, blk_of hb4 H3.out.2.2.2.1 (lt_of H3.out.2.2.2.1), sl_of_owns ho4, below_on H3.out.2.2.2.2 hb4⟩
       clear ho4 hg4 hb4))
  clear H0 H1 H2 H3 HL1 HE HTW p0 p1
  refine cutG (fun W => Pb w W f (.slice ao ts.length cap) w3.heap.size tb c w2.heap.size zs gl (.slice ao4 bs.length c4) ts bs) H4.out ?_
  intro w5 H5
  have H5 := hid H5
  clear H4
  generalize w3.heap.size = rq at H5 ⊢
  generalize w2.heap.size = BB at H5
  go_wp2_with fail
  go_loopw [7, 8, 9] (fun v7 v8 ix wr => ∃ (i : Nat) (g x T : Nat → Nat) (A1 A2 : Nat → Nat → Option Addr) (a7 : Option Addr) (c7 : Nat) (a8 : Option Addr) (c8 : Nat), i ≤ 3 ∧ v7 = .slice a7 i c7 ∧ v8 = .slice a8 i c8 ∧ ix = .int .i64 i ∧ Hid (Q1 w5 wr (.slice a7 i c7) (.slice a8 i c8) f bs ts g x T A1 A2 i)) (fun _ _ ix _ => 3 - (intOf ix).toNat)
  case atStart => exact ⟨0, _, _, _, _, _, none, 0, none, 0, Nat.zero_le _, rfl, rfl, rfl, hid (q1_start w5 f bs ts)⟩
  case round =>
    obtain ⟨i, g, x, T, A1, A2, a7, c7, a8, c8, hi, rfl, rfl, rfl, hQ⟩ := hrel
    by_cases hlt : i < 3
    · as_aux_lemma =>
      have hlt' : (i : Int) < 3 := by omega
      have hP := hid (H5.out.below hQ.out.hb)
      obtain ⟨p0, p1, -⟩ := vfacts2 hP.out.r5
      go_upto_region 12 with (first
        | (go_at_call 8
           refine (HE2.out _ _ hP.out.tn.ts).mono ?_
           rintro e w7 ⟨hb7, gb, rfl, hob, hgb⟩
           have H7 := hid (And.intro (hQ.out.below hb7) (And.intro (hP.out.below hb7) (And.intro hob (And.intro hgb hb7.size))))
           clear hob hgb hb7)
        | (go_at_call 10
           refine (HD.out _ _ (own_sl H7.out.2.1.ln (by omega))).mono ?_
           rintro e w8 ⟨hb8, Sc, rfl, hts8, hsr8⟩
           obtain ⟨xb, a1, a2, rfl, hbt⟩ := bt_of hts8 hsr8
           have hba := below1 w8 (bo f (sx xb ts.length))
           have hb9 := below_on hb8 hba
           have H8 := hid (And.intro (H7.out.1.below hb9) (And.intro (H7.out.2.1.below hb9) (And.intro (blk_of hb9 H7.out.2.2.1 (lt_of H7.out.2.2.1)) (And.intro (hbt.below hba) (And.intro (heap_alloc_new w8 (bo f (sx xb ts.length))) hb8.size)))))
           obtain ⟨p0, p1, -⟩ := vfacts2 H8.out.2.1.r1
           obtain ⟨q0, q1, -⟩ := vfacts2 H8.out.2.2.2.2.1
           clear hb8 hts8 hsr8 hbt hba hb9)
        | (go_at_call 13
           refine (bytes_same _ _ bs _ (own_sl H8.out.2.2.1 (by omega)) H8.out.2.1.kp (by omega)).mono ?_
           rintro e w9 ⟨hd9, rfl⟩
           have hb9 := hd9.below
           have H9 := hid (And.intro (H8.out.1.below hb9) (And.intro (H8.out.2.1.below hb9) (And.intro (blk_of hb9 H8.out.2.2.1 (lt_of H8.out.2.2.1)) (And.intro (H8.out.2.2.2.1.below hb9) (And.intro (blk_of hb9 H8.out.2.2.2.2.1 (lt_of H8.out.2.2.2.2.1)) hb9.size)))))
           obtain ⟨p0, p1, -⟩ := vfacts2 H9.out.2.1.r1
           obtain ⟨q0, q1, -⟩ := vfacts2 H9.out.2.2.2.2.1
           clear hd9 hb9)
        | (go_at_call 11
           refine (HSm.out _ _ _ (HTS.out.below H9.out.2.1.hb) H9.out.2.2.2.1.ts).mono ?_
           rintro e w10 ⟨rfl, hb10⟩
           have H10 := hid (And.intro (H9.out.1.below hb10) (And.intro (blk_of hb10 H9.out.2.2.1 (lt_of H9.out.2.2.1)) (And.intro (H9.out.2.2.2.1.below hb10) (And.intro (blk_of hb10 H9.out.2.2.2.2.1 (lt_of H9.out.2.2.2.2.1)) hb10.size))))
           clear hb10)
        | (at_builtin
           refine wpList_append_gr _ rfl (.tmp 90) (.tmp 92) 45 34 (.slice none 0 0) 1 24 rfl Try.underlying45 Try.info34z rfl (by decide) w5.heap.size _ i _ rfl (Gr.alloc (.inl H10.out.1.r7) _) w10.heap.size 1 [sx gb bs.length] rfl (rf_one w10 34 _ rfl) (by omega) (by unfold maxLen; omega) (by have := H10.out.1.hb.size; simp; omega) ?_
           intro ao11 c11 w11 hown hwro
           have hbx := blk_of (below1 w10 (.cells #[sx gb bs.length] 34)) H10.out.2.2.2.1 (lt_of H10.out.2.2.2.1)
           have hbx2 := (hwro.out.block _ (lt_of hbx) (fun ⟨_, cur, hc⟩ => by rw [hbx] at hc; simp at hc)).trans hbx
           have H11 := hid (And.intro hown.out (And.intro hwro.out hbx2))
           have HG8 := hid (show Gr w11 w5.heap.size 24 2 (.slice a8 i c8) i _ from .inl (owns_kp (ownsRow_kept H10.out.1.r8 (Kept.ofBelow (below1 w10 (.cells #[sx gb bs.length] 34))) (fun _ _ h => h)) hwro.out (by decide)))
           obtain ⟨q0, q1, -⟩ := vfacts2 hbx2
           have hz11 : w5.heap.size ≤ w11.heap.size := by have q1 := hwro.out.size; have q2 := H10.out.1.hb.size; simp at q1; omega
           clear hown hwro hbx hbx2)
        | (at_builtin
           refine wpList_append_gr _ rfl (.tmp 94) (.tmp 96) 46 24 (.agg #[.int .i64 0, .slice none 0 0]) 2 32 rfl Try.underlying46 Try.info24z rfl (by decide) w5.heap.size _ i _ rfl (Gr.alloc HG8.out _) w11.heap.size 1 [.int .i64 f, sx xb ts.length] rfl (rf_two w11 f _ rfl) (by omega) (by unfold maxLen; omega) (by simp; omega) ?_
           intro ao12 c12 w12 hown hwro
           have H12 := hid (And.intro hown.out hwro.out)
           clear hown hwro))
      have hg := H7.out.2.2.2.1
      have htl := hQ.out.tl
      have hz1 := H7.out.2.2.2.2
      have hz2 := H8.out.2.2.2.2.2
      have hz3 := H9.out.2.2.2.2.2
      have hz4 := H10.out.2.2.2.2
      have HM := hid (H10.out.1.more H10.out.2.1 (show T i ≤ gb by omega) (H10.out.2.2.1.widen (show T i ≤ w7.heap.size by omega) (show w8.heap.size ≤ w10.heap.size by simp at hz3; omega)) H11.out.1 H11.out.2.1 H12.out.1 H12.out.2)
      clear hg htl hz1 hz2 hz3 hz4 p0 p1 q0 q1 hz11 H7 H8 H9 H10 H11 H12 HG8 hP hQ
      go_wp2
      go_roundw
      case rel => first | exact ⟨i + 1, _, _, _, _, _, ao11, c11, ao12, c12, by omega, rfl, rfl, by go_num, HM⟩ | ((repeat apply Exists.intro); exact ⟨⟨i + 1, _, _, _, _, _, ao11, c11, ao12, c12, by omega, rfl, rfl, by go_num, HM⟩, rfl⟩)
      case measure => simp [intOf]; omega
    · obtain rfl : i = 3 := by omega
      obtain ⟨b7, c7', e7, hc7, hd7, -⟩ := own_hd hQ.out.r7 (fun _ => rfl) (by decide)
      obtain ⟨b8, c8', e8, hc8, hd8a, hd8⟩ := own_hd2 hQ.out.r8
      injection e7 with e7a _ e7b
      injection e8 with e8a _ e8b
      subst e7a e7b e8a e8b
      have HH := hid (And.intro hd7 (And.intro hd8a hd8))
      have HCP := hid (And.intro hc7 hc8)
      have c7' : (3 : Int) ≤ c7 := by omega
      have c8' : (3 : Int) ≤ c8 := by omega
      clear hd7 hd8a hd8 hlt hi HE2 HD hc7 hc8
      go_upto_region 19 with fail
      refine cutG (fun W => Q1 w5 W (.slice (some ⟨b7, 0, none⟩) 3 c7) (.slice (some ⟨b8, 0, none⟩) 3 c8) f bs ts g x T A1 A2 3 ∧ Hd W 34 b7 1 0 3 (fun j => sx (g j) bs.length) ∧ Hd W 24 b8 2 0 3 (fun _ => .int .i64 f) ∧ Hd W 24 b8 2 1 3 (fun j => sx (x j) ts.length)) ⟨hQ.out, HH.out⟩ ?_
      rintro w6 ⟨hQ6, hH6⟩
      have HQ6 := hid (And.intro hQ6 hH6)
      clear hQ HH hQ6 hH6
      go_wp2_with fail
      go_loopw [14] (fun ix wr => ∃ (i : Nat), i ≤ 3 ∧ ix = .int .i64 i ∧ Hid (Below w6.heap.size w6 wr)) (fun ix _ => 3 - (intOf ix).toNat)
      case atStart => exact ⟨0, Nat.zero_le _, rfl, hid (Below.refl _ _)⟩
      case round =>
        obtain ⟨i, hi, rfl, hB⟩ := hrel
        by_cases hlt : i < 3
        · as_aux_lemma =>
          have hlt' : (i : Int) < 3 := by omega
          have FQ := hid (fun W (hb : Below w6.heap.size w6 W) => And.intro (HQ6.out.1.below hb) (H5.out.below (HQ6.out.1.below hb).hb))
          have FC := hid (show ∀ W, Below w6.heap.size w6 W → W.cell? ⟨b7, i, none⟩ = some (sx (g i) bs.length) ∧ W.cell? ⟨w.heap.size, 0, none⟩ = some (.int .i64 f) ∧ W.cell? ⟨w.heap.size, 1, none⟩ = some (.slice ao ts.length cap) ∧ W.cell? ⟨b8, i * 2, none⟩ = some (.int .i64 f) ∧ W.cell? ⟨b8, i * 2 + 1, none⟩ = some (sx (x i) ts.length) from fun W hb => by
            obtain ⟨p0, p1, -⟩ := vfacts2 (FQ.out W hb).2.r1
            exact ⟨by simpa using (HQ6.out.2.1.below hb).at_ i hlt, p0, p1, (HQ6.out.2.2.1.below hb).at_ i hlt, (HQ6.out.2.2.2.below hb).at_ i hlt⟩)
          obtain ⟨y0, y1, y2, y3, y4⟩ := FC.out _ hB.out
          have hBd := below_on hB.out (below_drew wr)
          have HBd := hid hBd
          clear hBd
          go_wp2_with fail
          go_region_held3 (fun wx => wx.cell? ⟨b7, i, none⟩ = some (sx (g i) bs.length) ∧ wx.cell? ⟨w.heap.size, 0, none⟩ = some (.int .i64 f) ∧ wx.cell? ⟨w.heap.size, 1, none⟩ = some (.slice ao ts.length cap) ∧ wx.cell? ⟨b8, i * 2, none⟩ = some (.int .i64 f) ∧ wx.cell? ⟨b8, i * 2 + 1, none⟩ = some (sx (x i) ts.length))
            (first | exact FC.out _ B10.out | exact FC.out _ B9.out | exact ⟨y0, y1, y2, y3, y4⟩ | (go_keep; done))
            (first
              | (go_at_call 13
                 refine (bytes_same _ _ bs _ (own_sl ((FQ.out _ HBd.out).1.ro i hlt).1 (by omega)) (FQ.out _ HBd.out).2.kp (by omega)).mono ?_
                 rintro e w9 ⟨hd9, rfl⟩
                 have B9 := hid (below_on HBd.out hd9.below)
                 clear hd9)
              | (go_at_call 11
                 refine (HSm.out _ _ _ (HTS.out.below (FQ.out _ B9.out).2.hb) ((FQ.out _ B9.out).1.tx i hlt).ts).mono ?_
                 rintro e w10 ⟨rfl, hb10⟩
                 have B10 := hid (below_on B9.out hb10)
                 clear hb10))
          go_wp2
          go_roundw
          case rel => first | exact ⟨i + 1, by omega, by go_num, B10⟩ | ((repeat apply Exists.intro); exact ⟨⟨i + 1, by omega, by go_num, B10⟩, rfl⟩)
          case measure => simp [intOf]; omega
        · obtain rfl : i = 3 := by omega
          go_upto_region 26 with fail
          refine cutG (fun W => Q1 w5 W (.slice (some ⟨b7, 0, none⟩) 3 c7) (.slice (some ⟨b8, 0, none⟩) 3 c8) f bs ts g x T A1 A2 3 ∧ Hd W 34 b7 1 0 3 (fun j => sx (g j) bs.length) ∧ Hd W 24 b8 2 1 3 (fun j => sx (x j) ts.length)) ⟨HQ6.out.1.below hB.out, HQ6.out.2.1.below hB.out, HQ6.out.2.2.2.below hB.out⟩ ?_
          rintro w7 ⟨hQ7, hH7⟩
          have HQ7 := hid (And.intro hQ7 hH7)
          clear HQ6 hQ7 hH7 hB hi hlt HSm
          obtain ⟨B1, hB1⟩ : ∃ B1, B1 = fun m => A1 (m / ts.length) (m % ts.length) := ⟨_, rfl⟩
          obtain ⟨B2, hB2⟩ : ∃ B2, B2 = fun m => A2 (m / ts.length) (m % ts.length) := ⟨_, rfl⟩
          obtain ⟨n1, hn1⟩ : ∃ n1, n1 = fun m => (tAt ts (m % ts.length)).xs.length := ⟨_, rfl⟩
          obtain ⟨n2, hn2⟩ : ∃ n2, n2 = fun m => (tAt ts (m % ts.length)).vs.length := ⟨_, rfl⟩
          have HBN := hid (And.intro hB1 (And.intro hB2 (And.intro hn1 hn2)))
          clear hB1 hB2 hn1 hn2
          go_wp2_with fail
          go_loopw [15, 16, 17] (fun v15 v16 ix wr => ∃ (i M : Nat) (a15 : Option Addr) (c15 : Nat) (a16 : Option Addr) (c16 : Nat), i ≤ 3 ∧ v15 = .slice a15 M c15 ∧ v16 = .slice a16 M c16 ∧ ix = .int .i64 i ∧ Hid (M = i * ts.length) ∧ Hid (Q2 w7 wr (.slice a15 M c15) (.slice a16 M c16) B1 B2 n1 n2 M)) (fun _ _ ix _ => 3 - (intOf ix).toNat)
          case atStart => exact ⟨0, 0, none, 0, none, 0, Nat.zero_le _, rfl, rfl, rfl, hid (by simp), hid ⟨Below.refl _ _, ⟨by simp, .inl ⟨rfl, rfl⟩⟩, ⟨by simp, .inl ⟨rfl, rfl⟩⟩⟩⟩
          case round =>
            obtain ⟨i, M, a15, c15, a16, c16, hi, rfl, rfl, rfl, hM, hQ2⟩ := hrel
            by_cases hlt : i < 3
            · as_aux_lemma =>
              have hlt' : (i : Int) < 3 := by omega
              go_wp2_with fail
              go_loopw [15, 16, 18] (fun v15 v16 iy wq => ∃ (k : Nat) (a15 : Option Addr) (c15 : Nat) (a16 : Option Addr) (c16 : Nat), k ≤ ts.length ∧ v15 = .slice a15 (M + k) c15 ∧ v16 = .slice a16 (M + k) c16 ∧ iy = .int .i64 k ∧ Hid (Q2 w7 wq (.slice a15 (M + k) c15) (.slice a16 (M + k) c16) B1 B2 n1 n2 (M + k))) (fun _ _ iy _ => ts.length - (intOf iy).toNat)
              case atStart => exact ⟨0, a15, c15, a16, c16, Nat.zero_le _, rfl, rfl, rfl, hQ2⟩
              case round =>
                clear hQ2
                rename World => wq
                obtain ⟨k, a15, c15, a16, c16, hk, rfl, rfl, rfl, hQ2⟩ := hrel
                have d8 := (HQ7.out.2.2.below hQ2.out.hb).at_ i hlt
                by_cases hkl : k < ts.length
                · have hkl' : (k : Int) < (ts.length : Int) := by omega
                  have hMk : (M + k) / ts.length = i ∧ (M + k) % ts.length = k := by
                    rw [hM.out]
                    exact ⟨by rw [Nat.mul_comm, Nat.mul_add_div hn0, Nat.div_eq_of_lt hkl, Nat.add_zero], by rw [Nat.mul_comm, Nat.mul_add_mod, Nat.mod_eq_of_lt hkl]⟩
                  obtain ⟨u1, hu1⟩ : ∃ u1, B1 (M + k) = u1 := ⟨_, rfl⟩
                  obtain ⟨u2, hu2⟩ : ∃ u2, B2 (M + k) = u2 := ⟨_, rfl⟩
                  obtain ⟨m1, hm1⟩ : ∃ m1, n1 (M + k) = m1 := ⟨_, rfl⟩
                  obtain ⟨m2, hm2⟩ : ∃ m2, n2 (M + k) = m2 := ⟨_, rfl⟩
                  have FC := hid (show ∀ W, Below w7.heap.size w7 W → W.cell? ⟨b8, i * 2 + 1, none⟩ = some (sx (x i) ts.length) ∧ W.cell? ⟨x i, k * 6 + 3, none⟩ = some (sa u1 m1) ∧ W.cell? ⟨x i, k * 6 + 5, none⟩ = some (sa u2 m2) from fun W hb => by
                    have hT := ((HQ7.out.1.below hb).tx i hlt).at_ k _ (tAt_get hkl)
                    refine ⟨(HQ7.out.2.2.below hb).at_ i hlt, ?_, ?_⟩
                    · rw [← hu1, ← hm1, HBN.out.1, HBN.out.2.2.1]; dsimp only; rw [hMk.1, hMk.2]; exact hT.c3
                    · rw [← hu2, ← hm2, HBN.out.2.1, HBN.out.2.2.2]; dsimp only; rw [hMk.1, hMk.2]; exact hT.c5)
                  have HU := hid (And.intro hu1 (And.intro hu2 (And.intro hm1 hm2)))
                  obtain ⟨y0, y1, y2⟩ := FC.out _ hQ2.out.hb
                  have HM3 := hid (show M + k + 1 ≤ 1000 by have := hM.out; have : i * ts.length ≤ 2 * 300 := Nat.mul_le_mul (by omega) (by omega); omega)
                  clear d8 hMk hu1 hu2 hm1 hm2
                  go_upto_region 31 with (first
                    | (at_builtin
                       refine wpList_append_gr _ rfl (.tmp 132) (.tmp 142) 47 28 (.slice none 0 0) 1 24 rfl Try.underlying47 Try.info28h rfl (by decide) w7.heap.size _ (M + k) _ rfl (Gr.alloc (.inl hQ2.out.r15) _) wq.heap.size 1 [sa u2 m2] rfl (rf_one wq 28 _ rfl) (by have := HM3.out; omega) (by have := HM3.out; unfold maxLen; omega) (by have := hQ2.out.hb.size; simp; omega) ?_
                       intro ao10 c10 w10 hown hwro
                       have hb10 : Below w7.heap.size w7 w10 := (below_on hQ2.out.hb (below1 wq (.cells #[sa u2 m2] 28))).trans (hwro.out.below (by have := hQ2.out.hb.size; simp; omega))
                       have H10 := hid (And.intro hown.out (And.intro hwro.out hb10))
                       have HG := hid (show Gr w10 w7.heap.size 25 1 (.slice a16 (M + k) c16) (M + k) _ from .inl (owns_kp (ownsRow_kept hQ2.out.r16 (Kept.ofBelow (below1 wq (.cells #[sa u2 m2] 28))) (fun _ _ h => h)) hwro.out (by decide)))
                       obtain ⟨y0, y1, y2⟩ := FC.out _ hb10
                       clear hown hwro hb10)
                    | (at_builtin
                       refine wpList_append_gr _ rfl (.tmp 144) (.tmp 155) 48 25 (.slice none 0 0) 1 24 rfl Try.underlying48 Try.info25h rfl (by decide) w7.heap.size _ (M + k) _ rfl (Gr.alloc HG.out _) w10.heap.size 1 [sa u1 m1] rfl (rf_one w10 25 _ rfl) (by have := HM3.out; omega) (by have := HM3.out; unfold maxLen; omega) (by have := H10.out.2.2.size; simp; omega) ?_
                       intro ao11 c11 w11 hown hwro
                       have H11 := hid (And.intro hown.out hwro.out)
                       clear hown hwro))
                  have HMO := hid (show Q2 w7 w11 (.slice ao10 (M + k + 1) c10) (.slice ao11 (M + k + 1) c11) B1 B2 n1 n2 (M + k + 1) from hQ2.out.more (by rw [HU.out.2.1, HU.out.2.2.2]; exact H10.out.1) H10.out.2.1 (by rw [HU.out.1, HU.out.2.2.1]; exact H11.out.1) H11.out.2)
                  clear FC HU y0 y1 y2 HM3 H10 HG H11 hQ2
                  go_wp2
                  go_roundw
                  case rel => first | exact ⟨k + 1, ao10, c10, ao11, c11, by omega, rfl, rfl, by go_num, HMO⟩ | ((repeat apply Exists.intro); exact ⟨⟨k + 1, ao10, c10, ao11, c11, by omega, rfl, rfl, by go_num, HMO⟩, rfl⟩)
                  case measure => simp [intOf]; omega
                · obtain rfl : k = ts.length := by omega
                  have HM2 := hid (show M + ts.length = (i + 1) * ts.length by rw [hM.out, Nat.add_one_mul])
                  clear hkl hk
                  go_wp2
                  clear d8
                  go_roundw
                  case rel => first | exact ⟨i + 1, M + ts.length, a15, c15, a16, c16, by omega, rfl, rfl, by go_num, HM2, hQ2⟩ | ((repeat apply Exists.intro); exact ⟨⟨i + 1, M + ts.length, a15, c15, a16, c16, by omega, rfl, rfl, by go_num, HM2, hQ2⟩, rfl⟩)
                  case measure => simp [intOf]; omega
            · obtain rfl : i = 3 := by omega
              have hM3 : M = 3 * ts.length := hM.out
              obtain ⟨b15, c15', e15, hc15, hd15, -⟩ := own_hd hQ2.out.r15 (fun _ => rfl) (by omega)
              obtain ⟨b16, c16', e16, hc16, hd16, -⟩ := own_hd hQ2.out.r16 (fun _ => rfl) (by omega)
              injection e15 with e15a _ e15b
              injection e16 with e16a _ e16b
              subst e15a e15b e16a e16b
              have hq := HQ7.out.1.below hQ2.out.hb
              obtain ⟨m5, hm5⟩ : ∃ m5, m5 = fun (_ k : Nat) => bs.getD k 0 := ⟨_, rfl⟩
              obtain ⟨m30, hm30⟩ : ∃ m30, m30 = fun (_ k : Nat) => (tAt ts k).k := ⟨_, rfl⟩
              obtain ⟨m50, hm50⟩ : ∃ m50, m50 = fun (m k : Nat) => ((tAt ts (m % ts.length)).vs.getD k zV).k := ⟨_, rfl⟩
              obtain ⟨m52, hm52⟩ : ∃ m52, m52 = fun (m k : Nat) => ((tAt ts (m % ts.length)).xs.getD k zI).op := ⟨_, rfl⟩
              have HQ3 : Hid (Q3 w5 wr b7 b8 b15 b16 bs.length ts.length M n1 n2 g x B1 B2 m5 m30 m50 m52) := hid ⟨hq.hb, HQ7.out.2.1.below hQ2.out.hb, HQ7.out.2.2.below hQ2.out.hb, hd15, hd16, by rw [hm5]; exact hq.f5 HSH.out, by rw [hm30]; exact hq.f30 HSH.out, by rw [hm50, hM3, HBN.out.2.1, HBN.out.2.2.2]; exact hq.f50 HSH.out, by rw [hm52, hM3, HBN.out.1, HBN.out.2.2.1]; exact hq.f52 HSH.out⟩
              have HNN := hid (show M ≤ 900 ∧ 0 < M ∧ (∀ m, n1 m ≤ 300) ∧ ∀ m, n2 m ≤ 300 from ⟨by omega, by omega, fun m => by rw [HBN.out.2.2.1]; exact (HSA.out.2 _ (tAt_mem (Nat.mod_lt _ hn0))).2, fun m => by rw [HBN.out.2.2.2]; exact (HSA.out.2 _ (tAt_mem (Nat.mod_lt _ hn0))).1⟩)
              have c15'' : (M : Int) ≤ c15 := by omega
              have c16'' : (M : Int) ≤ c16 := by omega
              have hM9 : M ≤ 900 := HNN.out.1
              clear hq hm5 hm30 hm50 hm52 hd15 hd16 hQ2 HQ7 hM hM3 hc15 hc16 hi hlt HBN HSH
              go_upto_region 34 with fail
              refine cutG (fun W => Q3 w5 W b7 b8 b15 b16 bs.length ts.length M n1 n2 g x B1 B2 m5 m30 m50 m52) HQ3.out ?_
              intro w8 hQ8
              have HQ8 := hid hQ8
              clear HQ3 hQ8
              go_wp2_with fail
              go_loopw [19] (fun ix wr => ∃ (i : Nat) (m5 m30 : Nat → Nat → Int), i ≤ 3 ∧ ix = .int .i64 i ∧ Hid (Q3 w5 wr b7 b8 b15 b16 bs.length ts.length M n1 n2 g x B1 B2 m5 m30 m50 m52) ∧ Hid (Dn m5 (fun _ => bs.length) 10 i 0 ∧ Dn m30 (fun _ => ts.length) 10 i 0)) (fun ix _ => 3 - (intOf ix).toNat)
              case atStart => exact ⟨0, m5, m30, Nat.zero_le _, rfl, HQ8, hid ⟨dn_zero _ _ _, dn_zero _ _ _⟩⟩
              case round =>
                clear HQ8
                obtain ⟨i, m5', m30', hi, rfl, hQ, hD⟩ := hrel
                by_cases hlt : i < 3
                · as_aux_lemma =>
                  have hlt' : (i : Int) < 3 := by omega
                  go_wp2_with fail
                  go_loopw [20] (fun iy wq => ∃ (k : Nat) (m5 : Nat → Nat → Int), k ≤ bs.length ∧ iy = .int .i64 k ∧ Hid (Q3 w5 wq b7 b8 b15 b16 bs.length ts.length M n1 n2 g x B1 B2 m5 m30' m50 m52) ∧ Hid (Dn m5 (fun _ => bs.length) 10 i k)) (fun iy _ => bs.length - (intOf iy).toNat)
                  case atStart => exact ⟨0, m5', Nat.zero_le _, rfl, hQ, hid hD.out.1⟩
                  case round =>
                    clear hQ
                    have HD2 := hid hD.out.2
                    clear hD
                    rename World => wq
                    obtain ⟨k, m5'', hk, rfl, hQ, hD⟩ := hrel
                    have d7 := hQ.out.d7 hlt
                    by_cases hkl : k < bs.length
                    · have hkl' : (k : Int) < (bs.length : Int) := by omega
                      have HDs := hid hD.out.step
                      obtain ⟨y0, y1, hs⟩ := hQ.out.set5 hlt hkl (10 + (i : Int))
                      have HS := hid hs
                      clear hs
                      go_wp2
                      clear y0 y1 d7
                      go_roundw
                      case rel => first | exact ⟨k + 1, _, by omega, by go_num, HS, HDs⟩ | ((repeat apply Exists.intro); exact ⟨⟨k + 1, _, by omega, by go_num, HS, HDs⟩, rfl⟩)
                      case measure => simp [intOf]; omega
                    · obtain rfl : k = bs.length := by omega
                      go_wp2
                      clear d7
                      go_loopw [21] (fun iz wp => ∃ (k : Nat) (m30 : Nat → Nat → Int), k ≤ ts.length ∧ iz = .int .i64 k ∧ Hid (Q3 w5 wp b7 b8 b15 b16 bs.length ts.length M n1 n2 g x B1 B2 m5'' m30 m50 m52) ∧ Hid (Dn m30 (fun _ => ts.length) 10 i k)) (fun iz _ => ts.length - (intOf iz).toNat)
                      case atStart => exact ⟨0, m30', Nat.zero_le _, rfl, hQ, HD2⟩
                      case round =>
                        clear hQ HD2
                        rename World => wp
                        obtain ⟨k, m30'', hk, rfl, hQ, hE⟩ := hrel
                        have d8 := hQ.out.d8 hlt
                        by_cases hkl : k < ts.length
                        · have hkl' : (k : Int) < (ts.length : Int) := by omega
                          obtain ⟨y0, y1, hs⟩ := hQ.out.set30 hlt hkl (10 + (i : Int))
                          have HS := hid hs
                          clear hs
                          go_wp2
                          clear y0 y1 d8
                          go_roundw
                          case rel => first | exact ⟨k + 1, _, by omega, by go_num, HS, hid hE.out.step⟩ | ((repeat apply Exists.intro); exact ⟨⟨k + 1, _, by omega, by go_num, HS, hid hE.out.step⟩, rfl⟩)
                          case measure => simp [intOf]; omega
                        · obtain rfl : k = ts.length := by omega
                          go_wp2
                          clear d8
                          go_roundw
                          case rel => first | exact ⟨i + 1, m5'', m30'', by omega, by go_num, hQ, hid ⟨hD.out.next, hE.out.next⟩⟩ | ((repeat apply Exists.intro); exact ⟨⟨i + 1, m5'', m30'', by omega, by go_num, hQ, hid ⟨hD.out.next, hE.out.next⟩⟩, rfl⟩)
                          case measure => simp [intOf]; omega
                · obtain rfl : i = 3 := by omega
                  go_upto_region 45 with fail
                  refine cutG (fun W => Q3 w5 W b7 b8 b15 b16 bs.length ts.length M n1 n2 g x B1 B2 m5' m30' m50 m52) hQ.out ?_
                  intro w9 hQ9
                  have HQ9 := hid hQ9
                  have HD5 := hid hD.out
                  clear hQ hQ9 hD hlt hi
                  go_wp2_with fail
                  go_loopw [22] (fun ix wr => ∃ (i : Nat) (m50 m52 : Nat → Nat → Int), i ≤ M ∧ ix = .int .i64 i ∧ Hid (Q3 w5 wr b7 b8 b15 b16 bs.length ts.length M n1 n2 g x B1 B2 m5' m30' m50 m52) ∧ Hid (Dn m50 n2 1000 i 0 ∧ Dn m52 n1 1000 i 0)) (fun ix _ => M - (intOf ix).toNat)
                  case atStart => exact ⟨0, m50, m52, Nat.zero_le _, rfl, HQ9, hid ⟨dn_zero _ _ _, dn_zero _ _ _⟩⟩
                  case round =>
                    clear HQ9
                    obtain ⟨i, m50', m52', hi, rfl, hQ, hD⟩ := hrel
                    by_cases hlt : i < M
                    · as_aux_lemma =>
                      have hlt' : (i : Int) < M := by omega
                      obtain ⟨N2, hN2⟩ : ∃ N2, n2 i = N2 := ⟨_, rfl⟩
                      obtain ⟨N1, hN1⟩ : ∃ N1, n1 i = N1 := ⟨_, rfl⟩
                      have HNi := hid (And.intro hN1 hN2)
                      have hN2b : N2 ≤ 300 := by have := HNN.out.2.2.2 i; omega
                      have hN1b : N1 ≤ 300 := by have := HNN.out.2.2.1 i; omega
                      clear hN1 hN2
                      go_wp2_with fail
                      go_loopw [23] (fun iy wq => ∃ (k : Nat) (m50 : Nat → Nat → Int), k ≤ N2 ∧ iy = .int .i64 k ∧ Hid (Q3 w5 wq b7 b8 b15 b16 bs.length ts.length M n1 n2 g x B1 B2 m5' m30' m50 m52') ∧ Hid (Dn m50 n2 1000 i k)) (fun iy _ => N2 - (intOf iy).toNat)
                      case atStart => exact ⟨0, m50', Nat.zero_le _, rfl, hQ, hid hD.out.1⟩
                      case round =>
                        clear hQ
                        have HD2 := hid hD.out.2
                        clear hD
                        rename World => wq
                        obtain ⟨k, m50'', hk, rfl, hQ, hD⟩ := hrel
                        have d15 := hQ.out.d15 hlt
                        rw [HNi.out.2] at d15
                        by_cases hkl : k < N2
                        · have hkl' : (k : Int) < (N2 : Int) := by omega
                          obtain ⟨b, hA, y0, y1, hs⟩ := hQ.out.set50 hlt (by rw [HNi.out.2]; exact hkl) (1000 + (i : Int))
                          rw [hA] at d15
                          have HS := hid hs
                          clear hs hA
                          go_wp2
                          clear y0 y1 d15
                          go_roundw
                          case rel => first | exact ⟨k + 1, _, by omega, by go_num, HS, hid hD.out.step⟩ | ((repeat apply Exists.intro); exact ⟨⟨k + 1, _, by omega, by go_num, HS, hid hD.out.step⟩, rfl⟩)
                          case measure => simp [intOf]; omega
                        · obtain rfl : k = N2 := by omega
                          go_wp2
                          clear d15
                          go_loopw [24] (fun iz wp => ∃ (k : Nat) (m52 : Nat → Nat → Int), k ≤ N1 ∧ iz = .int .i64 k ∧ Hid (Q3 w5 wp b7 b8 b15 b16 bs.length ts.length M n1 n2 g x B1 B2 m5' m30' m50'' m52) ∧ Hid (Dn m52 n1 1000 i k)) (fun iz _ => N1 - (intOf iz).toNat)
                          case atStart => exact ⟨0, m52', Nat.zero_le _, rfl, hQ, HD2⟩
                          case round =>
                            clear hQ HD2
                            rename World => wp
                            obtain ⟨k', m52'', hk', rfl, hQ, hE⟩ := hrel
                            have d16 := hQ.out.d16 hlt
                            rw [HNi.out.1] at d16
                            by_cases hkl : k' < N1
                            · have hkl' : (k' : Int) < (N1 : Int) := by omega
                              obtain ⟨b, hA, y0, y1, hs⟩ := hQ.out.set52 hlt (by rw [HNi.out.1]; exact hkl) (1000 + (i : Int))
                              rw [hA] at d16
                              have HS := hid hs
                              clear hs hA
                              go_wp2
                              clear y0 y1 d16
                              go_roundw
                              case rel => first | exact ⟨k' + 1, _, by omega, by go_num, HS, hid hE.out.step⟩ | ((repeat apply Exists.intro); exact ⟨⟨k' + 1, _, by omega, by go_num, HS, hid hE.out.step⟩, rfl⟩)
                              case measure => simp [intOf]; omega
                            · obtain rfl : k' = N1 := by omega
                              go_wp2
                              clear d16
                              have HX := hid (show Dn m50'' n2 1000 (i + 1) 0 ∧ Dn m52'' n1 1000 (i + 1) 0 from ⟨Dn.next (by rw [HNi.out.2]; exact hD.out), Dn.next (by rw [HNi.out.1]; exact hE.out)⟩)
                              go_roundw
                              case rel => first | exact ⟨i + 1, m50'', m52'', by omega, by go_num, hQ, HX⟩ | ((repeat apply Exists.intro); exact ⟨⟨i + 1, m50'', m52'', by omega, by go_num, hQ, HX⟩, rfl⟩)
                              case measure => simp [intOf]; omega
                    · have hiM : i = M := by omega
                      have HD6 := hid (hiM ▸ hD.out)
                      clear hiM hD
                      go_upto_region 60 with fail
                      refine cutG (fun W => Q3 w5 W b7 b8 b15 b16 bs.length ts.length M n1 n2 g x B1 B2 m5' m30' m50' m52') hQ.out ?_
                      intro w10 hQ10
                      have HQS := hid hQ10
                      clear hQ hQ10 hlt hi
                      go_wp2_with fail
                      go_loopw [25, 26, 29] (fun v1 v2 ix wr => ∃ (i : Nat) (a1 : Option Addr) (c1 : Nat) (a2 : Option Addr) (c2 : Nat) (l1 l2 : Nat → Value), i ≤ 3 ∧ v1 = .slice a1 i c1 ∧ v2 = .slice a2 i c2 ∧ ix = .int .i64 i ∧ Hid (Ql w10 wr 34 5 1 .u8 22 30 6 .i64 40 (fun _ => bs.length) (fun _ => ts.length) 10 100 (.slice a1 i c1) (.slice a2 i c2) l1 l2 i)) (fun _ _ ix _ => 3 - (intOf ix).toNat)
                      case atStart => exact ⟨0, none, 0, none, 0, _, _, Nat.zero_le _, rfl, rfl, rfl, hid (ql_start w10 34 5 1 .u8 22 30 6 .i64 40 (fun _ => bs.length) (fun _ => ts.length) 10 100)⟩
                      case round =>
                        rename World => wa
                        obtain ⟨i, a1, c1, a2, c2, l1, l2, hi, rfl, rfl, rfl, hL⟩ := hrel
                        by_cases hlt : i < 3
                        · have hlt' : (i : Int) < 3 := by omega
                          have hQa := HQS.out.below hL.out.hb
                          have y1 := hQa.d7 hlt
                          have y2 := hQa.d8 hlt
                          have hbn : bs.length ≤ 65536 := b2
                          have G1 := hid (show Gi wa wa.heap.size 5 1 .u8 (sx (g i) bs.length) (bs.length) 0 (10 + (i : Int)) (100 + (i : Int)) from gi_start hQa.f5 hlt (fun p hp => HD5.out.1.1 i hlt p hp) _)
                          have G2 := hid (show Gi wa wa.heap.size 30 6 .i64 (sx (x i) ts.length) (ts.length) 0 (10 + (i : Int)) (100 + (i : Int)) from gi_start hQa.f30 hlt (fun p hp => HD5.out.2.1 i hlt p hp) _)
                          have hzs := hL.out.hb.size
                          clear hQa
                          go_wp2_with fail
                          clear y1 y2
                          go_loopw [30, 31, 32] (fun v1 v2 iy wb => ∃ (k : Nat) (d1 : Option Addr) (k1 : Nat) (d2 : Option Addr) (k2 : Nat), k ≤ 40 ∧ v1 = .slice d1 (bs.length + k) k1 ∧ v2 = .slice d2 (ts.length + k) k2 ∧ iy = .int .i64 k ∧ Hid (Below wa.heap.size wa wb) ∧ Hid (Gi wb wa.heap.size 5 1 .u8 (.slice d1 (bs.length + k) k1) (bs.length) k (10 + (i : Int)) (100 + (i : Int))) ∧ Hid (Gi wb wa.heap.size 30 6 .i64 (.slice d2 (ts.length + k) k2) (ts.length) k (10 + (i : Int)) (100 + (i : Int)))) (fun _ _ iy _ => 40 - (intOf iy).toNat)
                          case atStart => exact ⟨0, _, _, _, _, Nat.zero_le _, rfl, rfl, rfl, hid (Below.refl _ _), G1, G2⟩
                          case round =>
                            clear G1 G2
                            rename World => wb
                            obtain ⟨k, d1, k1, d2, k2, hk, rfl, rfl, rfl, hB, hG1, hG2⟩ := hrel
                            by_cases hkl : k < 40
                            · have hkl' : (k : Int) < 40 := by omega
                              obtain ⟨cs1, g1, o1, f1, -⟩ := hG1.out
                              have HG1 := hid (And.intro g1 (And.intro o1 f1))
                              have hsz := hB.out.size
                              clear g1 o1 f1
                              go_upto_region 69 with (first
                                | (at_builtin
                                   refine wpList_append_gr _ rfl (.tmp 258) (.tmp 262) 34 5 (.int .u8 0) 1 1 rfl Try.underlying34 Try.info5 rfl (by decide) wa.heap.size _ (bs.length + k) _ rfl (Gr.alloc HG1.out.1 _) wb.heap.size 1 [.int .u8 (100 + (i : Int))] rfl (rf_one wb 5 _ rfl) (by omega) (by unfold maxLen; omega) (by simp; omega) ?_
                                   intro ao3 c3 w3 hown hwro
                                   have H3 := hid (And.intro hown.out hwro.out)
                                   have HG2 := hid ((hG2.out.alloc (.cells #[.int .u8 (100 + (i : Int))] 5)).other hwro.out (by decide))
                                   have hz3 : wa.heap.size ≤ w3.heap.size := by have q := hwro.out.size; simp at q; omega
                                   obtain ⟨cs2, g2, o2, f2, -⟩ := HG2.out
                                   have HG3 := hid (And.intro g2 (And.intro o2 f2))
                                   clear hown hwro g2 o2 f2))
                              go_upto_region 67 with (first
                                | (at_builtin
                                   refine wpList_append_gr _ rfl (.tmp 264) (.tmp 268) 22 30 (.agg tCells) 6 96 rfl Try.underlying22 Try.info30z rfl (by decide) wa.heap.size _ (ts.length + k) _ rfl (Gr.alloc HG3.out.1 _) w3.heap.size 1 [.int .i64 (100 + (i : Int)), .string emp, .int .i64 0, .slice none 0 0, .string emp, .slice none 0 0] rfl (rf_six w3 _) (by omega) (by unfold maxLen; omega) (by simp; omega) ?_
                                   intro ao4 c4' w4 hown hwro
                                   have H4 := hid (And.intro hown.out hwro.out)
                                   clear hown hwro))
                              have HN1 := hid (show Gi w4 wa.heap.size 5 1 .u8 (.slice ao3 (bs.length + (k + 1)) c3) (bs.length) (k + 1) (10 + (i : Int)) (100 + (i : Int)) from ((Gi.more (by decide) HG1.out.1.len HG1.out.2.1 HG1.out.2.2 rfl (by intro u hu; simp at hu; first | (rw [hu]; rfl) | (rcases hu with rfl | rfl | rfl <;> rfl)) H3.out.1).alloc _).other H4.out.2 (by decide))
                              have HN2 := hid (show Gi w4 wa.heap.size 30 6 .i64 (.slice ao4 (ts.length + (k + 1)) c4') (ts.length) (k + 1) (10 + (i : Int)) (100 + (i : Int)) from Gi.more (by decide) HG3.out.1.len HG3.out.2.1 HG3.out.2.2 rfl (by intro u hu; simp at hu; first | (rcases hu with rfl | rfl | rfl | rfl | rfl | rfl <;> rfl) | (rcases hu with rfl | rfl | rfl <;> rfl)) H4.out.1)
                              have HBn := hid (gi_both hB.out H3.out.2 H4.out.2)
                              clear H3 H4 HG1 HG2 HG3 hG1 hG2 hB hsz hz3
                              go_wp2
                              go_roundw
                              case rel => first | exact ⟨k + 1, ao3, c3, ao4, c4', by omega, rfl, rfl, by go_num, HBn, HN1, HN2⟩ | ((repeat apply Exists.intro); exact ⟨⟨k + 1, ao3, c3, ao4, c4', by omega, rfl, rfl, by go_num, HBn, HN1, HN2⟩, rfl⟩)
                              case measure => simp [intOf]; omega
                            · obtain rfl : k = 40 := by omega
                              have hLb := hL.out.below hB.out
                              have HLb := hid (And.intro hLb (And.intro ((hG1.out.lg (by decide)).mono hzs) ((hG2.out.lg (by decide)).mono hzs)))
                              have hsz := hLb.hb.size
                              clear hLb hG1 hG2 hkl hk
                              go_upto_region 62 with (first
                                | (at_builtin
                                   refine wpList_append_gr _ rfl (.tmp 270) (.tmp 272) 45 34 (.slice none 0 0) 1 24 rfl Try.underlying45 Try.info34z rfl (by decide) w10.heap.size _ i _ rfl (Gr.alloc (.inl HLb.out.1.r1) _) wb.heap.size 1 [.slice d1 (bs.length + 40) k1] rfl (rf_one wb 34 _ rfl) (by omega) (by unfold maxLen; omega) (by simp; omega) ?_
                                   intro ao5 c5 w5' hown hwro
                                   have H5' := hid (And.intro hown.out hwro.out)
                                   have HG2 := hid (show Gr w5' w10.heap.size 22 1 (.slice a2 i c2) i _ from .inl (owns_kp (ownsRow_kept HLb.out.1.r2 (Kept.ofBelow (below1 wb (.cells #[.slice d1 (bs.length + 40) k1] 34))) (fun _ _ h => h)) hwro.out (by decide)))
                                   have hz5 : w10.heap.size ≤ w5'.heap.size := by have q := hwro.out.size; simp at q; omega
                                   clear hown hwro)
                                | (at_builtin
                                   refine wpList_append_gr _ rfl (.tmp 274) (.tmp 276) 53 22 (.slice none 0 0) 1 24 rfl Try.underlying53 Try.info22h rfl (by decide) w10.heap.size _ i _ rfl (Gr.alloc HG2.out _) w5'.heap.size 1 [.slice d2 (ts.length + 40) k2] rfl (rf_one w5' 22 _ rfl) (by omega) (by unfold maxLen; omega) (by simp; omega) ?_
                                   intro ao6 c6 w6' hown hwro
                                   have H6' := hid (And.intro hown.out hwro.out)
                                   clear hown hwro))
                              have HMO := hid (HLb.out.1.more (by decide) HLb.out.2.1 HLb.out.2.2 H5'.out.1 H5'.out.2 H6'.out.1 H6'.out.2)
                              clear HLb hsz hz5 HG2 H5' H6' hL hB hzs
                              go_wp2
                              go_roundw
                              case rel => first | exact ⟨i + 1, ao5, c5, ao6, c6, _, _, by omega, rfl, rfl, by go_num, HMO⟩ | ((repeat apply Exists.intro); exact ⟨⟨i + 1, ao5, c5, ao6, c6, _, _, by omega, rfl, rfl, by go_num, HMO⟩, rfl⟩)
                              case measure => simp [intOf]; omega
                        · obtain rfl : i = 3 := by omega
                          obtain ⟨b25, c25, b26, c26, e25, hc25, e26, hc26, -, -⟩ := hL.out.hd (by decide) (by decide)
                          injection e25 with q1 _ q2
                          injection e26 with q3 _ q4
                          subst q1 q2 q3 q4
                          have c25' : (3 : Int) ≤ c1 := by omega
                          have c26' : (3 : Int) ≤ c2 := by omega
                          clear hc25 hc26 hlt hi
                          go_upto_region 72 with fail
                          refine cutG (fun W => Q3 w5 W b7 b8 b15 b16 bs.length ts.length M n1 n2 g x B1 B2 m5' m30' m50' m52' ∧ Ql w10 W 34 5 1 .u8 22 30 6 .i64 40 (fun _ => bs.length) (fun _ => ts.length) 10 100 (.slice (some ⟨b25, 0, none⟩) 3 c1) (.slice (some ⟨b26, 0, none⟩) 3 c2) l1 l2 3) ⟨HQS.out.below hL.out.hb, hL.out⟩ ?_
                          rintro w11 ⟨hQ11, hL11⟩
                          have HQT := hid (And.intro hQ11 hL11)
                          clear HQS hL hQ11 hL11
                          go_wp2_with fail
                          go_loopw [27, 28, 33] (fun v1 v2 ix wr => ∃ (i : Nat) (a3 : Option Addr) (c3v : Nat) (a4 : Option Addr) (c4v : Nat) (l3 l4 : Nat → Value), i ≤ M ∧ v1 = .slice a3 i c3v ∧ v2 = .slice a4 i c4v ∧ ix = .int .i64 i ∧ Hid (Ql w11 wr 28 50 3 .i64 25 52 8 .i64 20 n2 n1 1000 5000 (.slice a3 i c3v) (.slice a4 i c4v) l3 l4 i)) (fun _ _ ix _ => M - (intOf ix).toNat)
                          case atStart => exact ⟨0, none, 0, none, 0, _, _, Nat.zero_le _, rfl, rfl, rfl, hid (ql_start w11 28 50 3 .i64 25 52 8 .i64 20 n2 n1 1000 5000)⟩
                          case round =>
                            rename World => wa
                            obtain ⟨i, a3, c3v, a4, c4v, l3, l4, hi, rfl, rfl, rfl, hL⟩ := hrel
                            by_cases hlt : i < M
                            · have hlt' : (i : Int) < M := by omega
                              have hQa := HQT.out.1.below hL.out.hb
                              have y1 := hQa.d15 hlt
                              have y2 := hQa.d16 hlt
                              have HNi := hid (show n2 i ≤ 300 ∧ n1 i ≤ 300 from ⟨HNN.out.2.2.2 i, HNN.out.2.2.1 i⟩)
                              obtain ⟨N2, hN2⟩ : ∃ N2, n2 i = N2 := ⟨_, rfl⟩
                              obtain ⟨N1, hN1⟩ : ∃ N1, n1 i = N1 := ⟨_, rfl⟩
                              have hN2b : N2 ≤ 300 := by have := HNi.out.1; omega
                              have hN1b : N1 ≤ 300 := by have := HNi.out.2; omega
                              rw [hN2] at y1
                              rw [hN1] at y2
                              have HNj := hid (And.intro hN2 hN1)
                              have G1 := hid (show Gi wa wa.heap.size 50 3 .i64 (sa (B2 i) N2) (N2) 0 (1000 + (i : Int)) (5000 + (i : Int)) from hN2 ▸ gi_start hQa.f50 hlt (fun p hp => HD6.out.1.1 i hlt p hp) _)
                              have G2 := hid (show Gi wa wa.heap.size 52 8 .i64 (sa (B1 i) N1) (N1) 0 (1000 + (i : Int)) (5000 + (i : Int)) from hN1 ▸ gi_start hQa.f52 hlt (fun p hp => HD6.out.2.1 i hlt p hp) _)
                              have hzs := hL.out.hb.size
                              clear hQa hN1 hN2
                              go_wp2_with fail
                              clear y1 y2
                              go_loopw [34, 35, 36] (fun v1 v2 iy wb => ∃ (k : Nat) (d1 : Option Addr) (k1 : Nat) (d2 : Option Addr) (k2 : Nat), k ≤ 20 ∧ v1 = .slice d1 (N2 + k) k1 ∧ v2 = .slice d2 (N1 + k) k2 ∧ iy = .int .i64 k ∧ Hid (Below wa.heap.size wa wb) ∧ Hid (Gi wb wa.heap.size 50 3 .i64 (.slice d1 (N2 + k) k1) (N2) k (1000 + (i : Int)) (5000 + (i : Int))) ∧ Hid (Gi wb wa.heap.size 52 8 .i64 (.slice d2 (N1 + k) k2) (N1) k (1000 + (i : Int)) (5000 + (i : Int)))) (fun _ _ iy _ => 20 - (intOf iy).toNat)
                              case atStart => exact ⟨0, _, _, _, _, Nat.zero_le _, rfl, rfl, rfl, hid (Below.refl _ _), G1, G2⟩
                              case round =>
                                clear G1 G2
                                rename World => wb
                                obtain ⟨k, d1, k1, d2, k2, hk, rfl, rfl, rfl, hB, hG1, hG2⟩ := hrel
                                by_cases hkl : k < 20
                                · have hkl' : (k : Int) < 20 := by omega
                                  obtain ⟨cs1, g1, o1, f1, -⟩ := hG1.out
                                  have HG1 := hid (And.intro g1 (And.intro o1 f1))
                                  have hsz := hB.out.size
                                  clear g1 o1 f1
                                  go_upto_region 81 with (first
                                    | (at_builtin
                                       refine wpList_append_gr _ rfl (.tmp 296) (.tmp 300) 28 50 (.agg vCells) 3 32 rfl Try.underlying28 Try.info50z rfl (by decide) wa.heap.size _ (N2 + k) _ rfl (Gr.alloc HG1.out.1 _) wb.heap.size 1 [.int .i64 (5000 + (i : Int)), .int .i64 0, .string emp] rfl (rf_3v wb _) (by omega) (by unfold maxLen; omega) (by simp; omega) ?_
                                       intro ao3 c3 w3 hown hwro
                                       have H3 := hid (And.intro hown.out hwro.out)
                                       have HG2 := hid ((hG2.out.alloc (.cells #[.int .i64 (5000 + (i : Int)), .int .i64 0, .string emp] 50)).other hwro.out (by decide))
                                       have hz3 : wa.heap.size ≤ w3.heap.size := by have q := hwro.out.size; simp at q; omega
                                       obtain ⟨cs2, g2, o2, f2, -⟩ := HG2.out
                                       have HG3 := hid (And.intro g2 (And.intro o2 f2))
                                       clear hown hwro g2 o2 f2))
                                  go_upto_region 79 with (first
                                    | (at_builtin
                                       refine wpList_append_gr _ rfl (.tmp 302) (.tmp 306) 25 52 (.agg zCells) 8 72 rfl Try.underlying25 Try.info52z rfl (by decide) wa.heap.size _ (N1 + k) _ rfl (Gr.alloc HG3.out.1 _) w3.heap.size 1 [.int .i64 (5000 + (i : Int)), .int .i64 0, .int .i64 0, .int .i64 0, .int .i64 0, .int .i64 0, .int .i64 0, .string emp] rfl (rf_8i w3 _) (by omega) (by unfold maxLen; omega) (by simp; omega) ?_
                                       intro ao4 c4' w4 hown hwro
                                       have H4 := hid (And.intro hown.out hwro.out)
                                       clear hown hwro))
                                  have HN1 := hid (show Gi w4 wa.heap.size 50 3 .i64 (.slice ao3 (N2 + (k + 1)) c3) (N2) (k + 1) (1000 + (i : Int)) (5000 + (i : Int)) from ((Gi.more (by decide) HG1.out.1.len HG1.out.2.1 HG1.out.2.2 rfl (by intro u hu; simp at hu; first | (rw [hu]; rfl) | (rcases hu with rfl | rfl | rfl <;> rfl)) H3.out.1).alloc _).other H4.out.2 (by decide))
                                  have HN2 := hid (show Gi w4 wa.heap.size 52 8 .i64 (.slice ao4 (N1 + (k + 1)) c4') (N1) (k + 1) (1000 + (i : Int)) (5000 + (i : Int)) from Gi.more (by decide) HG3.out.1.len HG3.out.2.1 HG3.out.2.2 rfl (by intro u hu; simp at hu; first | (rcases hu with rfl | rfl | rfl | rfl | rfl | rfl <;> rfl) | (rcases hu with rfl | rfl | rfl <;> rfl)) H4.out.1)
                                  have HBn := hid (gi_both hB.out H3.out.2 H4.out.2)
                                  clear H3 H4 HG1 HG2 HG3 hG1 hG2 hB hsz hz3
                                  go_wp2
                                  go_roundw
                                  case rel => first | exact ⟨k + 1, ao3, c3, ao4, c4', by omega, rfl, rfl, by go_num, HBn, HN1, HN2⟩ | ((repeat apply Exists.intro); exact ⟨⟨k + 1, ao3, c3, ao4, c4', by omega, rfl, rfl, by go_num, HBn, HN1, HN2⟩, rfl⟩)
                                  case measure => simp [intOf]; omega
                                · obtain rfl : k = 20 := by omega
                                  have hLb := hL.out.below hB.out
                                  have HLb := hid (And.intro hLb (And.intro (show Lg wb w11.heap.size 50 3 .i64 (.slice d1 (N2 + 20) k1) (n2 i) 20 (1000 + (i : Int)) (5000 + (i : Int)) from by rw [HNj.out.1]; exact (hG1.out.lg (by decide)).mono hzs) (show Lg wb w11.heap.size 52 8 .i64 (.slice d2 (N1 + 20) k2) (n1 i) 20 (1000 + (i : Int)) (5000 + (i : Int)) from by rw [HNj.out.2]; exact (hG2.out.lg (by decide)).mono hzs)))
                                  have hsz := hLb.hb.size
                                  clear hLb hG1 hG2 hkl hk
                                  go_upto_region 74 with (first
                                    | (at_builtin
                                       refine wpList_append_gr _ rfl (.tmp 308) (.tmp 310) 47 28 (.slice none 0 0) 1 24 rfl Try.underlying47 Try.info28h rfl (by decide) w11.heap.size _ i _ rfl (Gr.alloc (.inl HLb.out.1.r1) _) wb.heap.size 1 [.slice d1 (N2 + 20) k1] rfl (rf_one wb 28 _ rfl) (by omega) (by unfold maxLen; omega) (by simp; omega) ?_
                                       intro ao5 c5 w5' hown hwro
                                       have H5' := hid (And.intro hown.out hwro.out)
                                       have HG2 := hid (show Gr w5' w11.heap.size 25 1 (.slice a4 i c4v) i _ from .inl (owns_kp (ownsRow_kept HLb.out.1.r2 (Kept.ofBelow (below1 wb (.cells #[.slice d1 (N2 + 20) k1] 28))) (fun _ _ h => h)) hwro.out (by decide)))
                                       have hz5 : w11.heap.size ≤ w5'.heap.size := by have q := hwro.out.size; simp at q; omega
                                       clear hown hwro)
                                    | (at_builtin
                                       refine wpList_append_gr _ rfl (.tmp 312) (.tmp 314) 48 25 (.slice none 0 0) 1 24 rfl Try.underlying48 Try.info25h rfl (by decide) w11.heap.size _ i _ rfl (Gr.alloc HG2.out _) w5'.heap.size 1 [.slice d2 (N1 + 20) k2] rfl (rf_one w5' 25 _ rfl) (by omega) (by unfold maxLen; omega) (by simp; omega) ?_
                                       intro ao6 c6 w6' hown hwro
                                       have H6' := hid (And.intro hown.out hwro.out)
                                       clear hown hwro))
                                  have HMO := hid (HLb.out.1.more (by decide) HLb.out.2.1 HLb.out.2.2 H5'.out.1 H5'.out.2 H6'.out.1 H6'.out.2)
                                  clear HLb hsz hz5 HG2 H5' H6' hL hB hzs
                                  go_wp2
                                  go_roundw
                                  case rel => first | exact ⟨i + 1, ao5, c5, ao6, c6, _, _, by omega, rfl, rfl, by go_num, HMO⟩ | ((repeat apply Exists.intro); exact ⟨⟨i + 1, ao5, c5, ao6, c6, _, _, by omega, rfl, rfl, by go_num, HMO⟩, rfl⟩)
                                  case measure => simp [intOf]; omega
                            · have hiM : M = i := by omega
                              subst hiM
                              obtain ⟨b27, c27, b28, c28, e27, hc27, e28, hc28, -, -⟩ := hL.out.hd HNN.out.2.1 (by decide)
                              injection e27 with q1 _ q2
                              injection e28 with q3 _ q4
                              subst q1 q2 q3 q4
                              have c27' : (M : Int) ≤ c3v := by omega
                              have c28' : (M : Int) ≤ c4v := by omega
                              clear hc27 hc28 hlt hi
                              go_upto_region 84 with fail
                              refine cutG (fun W => Q3 w5 W b7 b8 b15 b16 bs.length ts.length M n1 n2 g x B1 B2 m5' m30' m50' m52' ∧ Ql w10 W 34 5 1 .u8 22 30 6 .i64 40 (fun _ => bs.length) (fun _ => ts.length) 10 100 (.slice (some ⟨b25, 0, none⟩) 3 c1) (.slice (some ⟨b26, 0, none⟩) 3 c2) l1 l2 3 ∧ Ql w11 W 28 50 3 .i64 25 52 8 .i64 20 n2 n1 1000 5000 (.slice (some ⟨b27, 0, none⟩) M c3v) (.slice (some ⟨b28, 0, none⟩) M c4v) l3 l4 M) ⟨HQT.out.1.below hL.out.hb, HQT.out.2.below hL.out.hb, hL.out⟩ ?_
                              rintro w12 ⟨hQ12, hL12, hK12⟩
                              obtain ⟨b25', c25q, b26', c26q, e25, -, e26, -, h25, h26⟩ := hL12.hd (by decide) (by decide)
                              injection e25 with q1 _ q2
                              injection q1 with q1
                              injection q1 with q1
                              injection e26 with q3 _ q4
                              injection q3 with q3
                              injection q3 with q3
                              obtain ⟨b27', c27q, b28', c28q, e27, -, e28, -, h27, h28⟩ := hK12.hd HNN.out.2.1 (by decide)
                              injection e27 with q5 _ q6
                              injection q5 with q5
                              injection q5 with q5
                              injection e28 with q7 _ q8
                              injection q7 with q7
                              injection q7 with q7
                              subst q1 q2 q3 q4 q5 q6 q7 q8
                              have HA := hid (And.intro hQ12 (And.intro hL12 (And.intro hK12 (And.intro h25 (And.intro h26 (And.intro h27 h28))))))
                              clear HQT hL hQ12 hL12 hK12 h25 h26 h27 h28
                              go_wp2_with fail
                              go_loopw [37] (fun ix wr => ∃ (i : Nat), i ≤ 3 ∧ ix = .int .i64 i ∧ wr = w12) (fun ix _ => 3 - (intOf ix).toNat)
                              case atStart => exact ⟨0, Nat.zero_le _, rfl, rfl⟩
                              case round =>
                                obtain ⟨i, hi, rfl, hwr⟩ := hrel
                                subst hwr
                                by_cases hlt : i < 3
                                · as_aux_lemma =>
                                  have hlt' : (i : Int) < 3 := by omega
                                  have y7 := HA.out.1.d7 hlt
                                  have y8 := HA.out.1.d8 hlt
                                  have y25 := HA.out.2.2.2.1 i hlt
                                  have y26 := HA.out.2.2.2.2.1 i hlt
                                  obtain ⟨r1, s1, e1, hat1⟩ := (HA.out.2.1.g1 i hlt).at_ (by decide)
                                  obtain ⟨r2, s2, e2, hat2⟩ := (HA.out.2.1.g2 i hlt).at_ (by decide)
                                  rw [e1] at y25
                                  rw [e2] at y26
                                  have HT1 := hid hat1
                                  have HT2 := hid hat2
                                  clear hat1 hat2 e1 e2
                                  go_wp2_with fail
                                  go_loopw [38] (fun iy wq => ∃ (k : Nat), k ≤ bs.length + 40 ∧ iy = .int .i64 k ∧ wq = wr) (fun iy _ => bs.length + 40 - (intOf iy).toNat)
                                  case atStart => exact ⟨0, Nat.zero_le _, rfl, rfl⟩
                                  case round =>
                                    obtain ⟨k, hk, rfl, hwq⟩ := hrel
                                    subst hwq
                                    by_cases hkl : k < bs.length + 40
                                    · have hkl' : (k : Int) < (bs.length : Int) + 40 := by omega
                                      have c2 := HT1.out k hkl
                                      rw [Nat.mul_one] at c2
                                      by_cases hkb : k < bs.length
                                      · as_aux_lemma =>
                                        rw [if_pos hkb] at c2
                                        have hkb' : (k : Int) < (bs.length : Int) := by omega
                                        have hge : decide ((bs.length : Int) ≤ (k : Int)) = false := by simp; omega
                                        go_wp2
                                        clear c2
                                        go_roundw
                                        case rel => exact ⟨k + 1, by omega, by go_num, (by first | rfl | trivial)⟩
                                        case measure => simp [intOf]; omega
                                      · as_aux_lemma =>
                                        rw [if_neg hkb] at c2
                                        have hge : (bs.length : Int) ≤ (k : Int) := by omega
                                        have hlk : decide ((k : Int) < (bs.length : Int)) = false := by simp; omega
                                        go_wp2
                                        clear c2
                                        go_roundw
                                        case rel => exact ⟨k + 1, by omega, by go_num, (by first | rfl | trivial)⟩
                                        case measure => simp [intOf]; omega
                                    · as_aux_lemma =>
                                      obtain rfl : k = bs.length + 40 := by omega
                                      go_wp2
                                      clear y25 hkl hk
                                      go_loopw [40] (fun iz wp => ∃ (k : Nat), k ≤ ts.length + 40 ∧ iz = .int .i64 k ∧ wp = wr) (fun iz _ => ts.length + 40 - (intOf iz).toNat)
                                      case atStart => exact ⟨0, Nat.zero_le _, rfl, rfl⟩
                                      case round =>
                                        obtain ⟨k, hk, rfl, hwp⟩ := hrel
                                        subst hwp
                                        by_cases hkl : k < ts.length + 40
                                        · have hkl' : (k : Int) < (ts.length : Int) + 40 := by omega
                                          have c2 := HT2.out k hkl
                                          by_cases hkb : k < ts.length
                                          · as_aux_lemma =>
                                            rw [if_pos hkb] at c2
                                            have hkb' : (k : Int) < (ts.length : Int) := by omega
                                            have hge : decide ((ts.length : Int) ≤ (k : Int)) = false := by simp; omega
                                            obtain ⟨bx, hbx, c3x⟩ := HA.out.1.f30.cell hlt hkb
                                            injection hbx with hbx
                                            injection hbx with hbx
                                            rw [← hbx, HD5.out.2.1 i hlt k hkb] at c3x
                                            clear hbx
                                            go_wp2
                                            clear c2 c3x
                                            go_roundw
                                            case rel => exact ⟨k + 1, by omega, by go_num, (by first | rfl | trivial)⟩
                                            case measure => simp [intOf]; omega
                                          · as_aux_lemma =>
                                            rw [if_neg hkb] at c2
                                            have hge : (ts.length : Int) ≤ (k : Int) := by omega
                                            have hlk : decide ((k : Int) < (ts.length : Int)) = false := by simp; omega
                                            go_wp2
                                            clear c2
                                            go_roundw
                                            case rel => exact ⟨k + 1, by omega, by go_num, (by first | rfl | trivial)⟩
                                            case measure => simp [intOf]; omega
                                        · as_aux_lemma =>
                                          obtain rfl : k = ts.length + 40 := by omega
                                          go_wp2
                                          clear y26 y8 y7
                                          go_roundw
                                          case rel => exact ⟨i + 1, by omega, by go_num, (by first | rfl | trivial)⟩
                                          case measure => simp [intOf]; omega
                                · obtain rfl : i = 3 := by omega
                                  clear hlt hi
                                  go_wp2_with fail
                                  go_loopw [42] (fun ix w13 => ∃ (i : Nat), i ≤ M ∧ ix = .int .i64 i ∧ w13 = wr) (fun ix _ => M - (intOf ix).toNat)
                                  case atStart => exact ⟨0, Nat.zero_le _, rfl, rfl⟩
                                  case round =>
                                    obtain ⟨i, hi, rfl, hw13⟩ := hrel
                                    subst hw13
                                    by_cases hlt : i < M
                                    · as_aux_lemma =>
                                      have hlt' : (i : Int) < M := by omega
                                      have y15 := HA.out.1.d15 hlt
                                      have y16 := HA.out.1.d16 hlt
                                      have y27 := HA.out.2.2.2.2.2.1 i hlt
                                      have y28 := HA.out.2.2.2.2.2.2 i hlt
                                      obtain ⟨r1, s1, e1, hat1⟩ := (HA.out.2.2.1.g1 i hlt).at_ (by decide)
                                      obtain ⟨r2, s2, e2, hat2⟩ := (HA.out.2.2.1.g2 i hlt).at_ (by decide)
                                      rw [e1] at y27
                                      rw [e2] at y28
                                      obtain ⟨N2, hN2⟩ : ∃ N2, n2 i = N2 := ⟨_, rfl⟩
                                      obtain ⟨N1, hN1⟩ : ∃ N1, n1 i = N1 := ⟨_, rfl⟩
                                      have hN2b : N2 ≤ 300 := by have := HNN.out.2.2.2 i; omega
                                      have hN1b : N1 ≤ 300 := by have := HNN.out.2.2.1 i; omega
                                      rw [hN2] at y15 y27 hat1
                                      rw [hN1] at y16 y28 hat2
                                      have HF1 := hid (show ∀ k, k < N2 → ∃ b, B2 i = some ⟨b, 0, none⟩ ∧ wr.cell? ⟨b, k * 3, none⟩ = some (.int .i64 (1000 + (i : Int))) from fun k hk => by
                                        obtain ⟨b, h1, h2⟩ := HA.out.1.f50.cell hlt (show k < n2 i by omega)
                                        exact ⟨b, h1, by rw [h2, HD6.out.1.1 i hlt k (by omega)]⟩)
                                      have HF2 := hid (show ∀ k, k < N1 → ∃ b, B1 i = some ⟨b, 0, none⟩ ∧ wr.cell? ⟨b, k * 8, none⟩ = some (.int .i64 (1000 + (i : Int))) from fun k hk => by
                                        obtain ⟨b, h1, h2⟩ := HA.out.1.f52.cell hlt (show k < n1 i by omega)
                                        exact ⟨b, h1, by rw [h2, HD6.out.2.1 i hlt k (by omega)]⟩)
                                      have HT1 := hid hat1
                                      have HT2 := hid hat2
                                      clear hat1 hat2 e1 e2 hN1 hN2
                                      go_wp2_with fail
                                      go_loopw [43] (fun iy wq => ∃ (k : Nat), k ≤ N2 + 20 ∧ iy = .int .i64 k ∧ wq = wr) (fun iy _ => N2 + 20 - (intOf iy).toNat)
                                      case atStart => exact ⟨0, Nat.zero_le _, rfl, rfl⟩
                                      case round =>
                                        obtain ⟨k, hk, rfl, hwq⟩ := hrel
                                        subst hwq
                                        by_cases hkl : k < N2 + 20
                                        · have hkl' : (k : Int) < (N2 : Int) + 20 := by omega
                                          have c2 := HT1.out k hkl
                                          by_cases hkb : k < N2
                                          · as_aux_lemma =>
                                            rw [if_pos hkb] at c2
                                            have hkb' : (k : Int) < (N2 : Int) := by omega
                                            have hge : decide ((N2 : Int) ≤ (k : Int)) = false := by simp; omega
                                            obtain ⟨bx, hbx, c3x⟩ := HF1.out k hkb
                                            rw [hbx] at y15
                                            clear hbx
                                            go_wp2
                                            clear c2 c3x
                                            go_roundw
                                            case rel => exact ⟨k + 1, by omega, by go_num, (by first | rfl | trivial)⟩
                                            case measure => simp [intOf]; omega
                                          · as_aux_lemma =>
                                            rw [if_neg hkb] at c2
                                            have hge : (N2 : Int) ≤ (k : Int) := by omega
                                            have hlk : decide ((k : Int) < (N2 : Int)) = false := by simp; omega
                                            go_wp2
                                            clear c2
                                            go_roundw
                                            case rel => exact ⟨k + 1, by omega, by go_num, (by first | rfl | trivial)⟩
                                            case measure => simp [intOf]; omega
                                        · as_aux_lemma =>
                                          obtain rfl : k = N2 + 20 := by omega
                                          go_wp2
                                          clear y27 y15 hkl hk
                                          go_loopw [45] (fun iz wp => ∃ (k : Nat), k ≤ N1 + 20 ∧ iz = .int .i64 k ∧ wp = wr) (fun iz _ => N1 + 20 - (intOf iz).toNat)
                                          case atStart => exact ⟨0, Nat.zero_le _, rfl, rfl⟩
                                          case round =>
                                            obtain ⟨k, hk, rfl, hwp⟩ := hrel
                                            subst hwp
                                            by_cases hkl : k < N1 + 20
                                            · have hkl' : (k : Int) < (N1 : Int) + 20 := by omega
                                              have c2 := HT2.out k hkl
                                              by_cases hkb : k < N1
                                              · as_aux_lemma =>
                                                rw [if_pos hkb] at c2
                                                have hkb' : (k : Int) < (N1 : Int) := by omega
                                                have hge : decide ((N1 : Int) ≤ (k : Int)) = false := by simp; omega
                                                obtain ⟨bx, hbx, c3x⟩ := HF2.out k hkb
                                                rw [hbx] at y16
                                                clear hbx
                                                go_wp2
                                                clear c2 c3x
                                                go_roundw
                                                case rel => exact ⟨k + 1, by omega, by go_num, (by first | rfl | trivial)⟩
                                                case measure => simp [intOf]; omega
                                              · as_aux_lemma =>
                                                rw [if_neg hkb] at c2
                                                have hge : (N1 : Int) ≤ (k : Int) := by omega
                                                have hlk : decide ((k : Int) < (N1 : Int)) = false := by simp; omega
                                                go_wp2
                                                clear c2
                                                go_roundw
                                                case rel => exact ⟨k + 1, by omega, by go_num, (by first | rfl | trivial)⟩
                                                case measure => simp [intOf]; omega
                                            · as_aux_lemma =>
                                              obtain rfl : k = N1 + 20 := by omega
                                              go_wp2
                                              clear y28 y16
                                              go_roundw
                                              case rel => exact ⟨i + 1, by omega, by go_num, (by first | rfl | trivial)⟩
                                              case measure => simp [intOf]; omega
                                    · as_aux_lemma =>
                                      have hP := hid (H5.out.below HA.out.1.hb)
                                      obtain ⟨p0, p1, -⟩ := vfacts2 hP.out.r1
                                      obtain ⟨q0, q1, -⟩ := vfacts2 hP.out.r5
                                      have hge : (M : Int) ≤ i := by omega
                                      go_wp2_with (first
                                        | (go_at_call 13
                                           refine (bytes_same _ _ bs _ (own_sl hP.out.ln (by omega)) hP.out.kp (by omega)).mono ?_
                                           rintro e w20 ⟨hd20, rfl⟩
                                           have H20 := hid (hP.out.below hd20.below)
                                           obtain ⟨p0, p1, -⟩ := vfacts2 H20.out.r1
                                           obtain ⟨q0, q1, -⟩ := vfacts2 H20.out.r5
                                           clear hd20)
                                        | (go_at_call 14
                                           refine (stands_any _ f _ _ _ ts _ _ H20.out.tn (HTS.out.below H20.out.hb) HSA.out).mono ?_
                                           rintro e w21 ⟨rfl, hb21⟩
                                           have H21 := hid (below_on H20.out.hb hb21)
                                           clear hb21)
                                        | (go_at_call 9
                                           refine (known_any _).mono ?_
                                           rintro e w22 ⟨rfl, hb22⟩
                                           have H22 := hid (below_on H21.out hb22)
                                           clear hb22))
                                      go_ret
                                      exact ⟨rfl, H22.out⟩

end Go.Proofs.Ytdnlfacfleemeaa.O
