import Derived.Test.YthcoigbkdbkojabGreatK44
set_option maxRecDepth 100000
namespace Go.Proofs.YthcoigbkdbkojabGreat
open Go.RowKit Go.MapKept
open V (hp_new hp_lt hp_below hp_alloc kl)
structure OA (w : World) (nm : ByteArray) (ar : Int) (S : Value) (xs : List Ins) (al : List Vd) (T : KV) (TN : Nat) (f : Ef) (n m b7 b8 b9 b12 p : Nat) (sa ba : Option Addr) (sc bc g1 c1 g2 c2 : Nat) (t1 t2 t3 : Option Addr) (k1 k2 k3 : Nat) (W : World) : Prop where
  en : n = xs.length
  em : m = al.length
  bl : Below w.heap.size w W
  x4 : W.heap[w.heap.size]? = some (.cells #[.string nm, .int .i64 ar, S] 34 (0, 0))
  x7 : W.heap[b7]? = some (.cells #[.slice sa TN sc, .slice none 0 0] 26 (0, 0))
  x8 : W.heap[b8]? = some (.cells #[.slice ba TN bc, .slice none 0 0] 26 (0, 0))
  x9 : W.heap[b9]? = some (.cells #[.string nm, .int .i64 ar, .slice (some ⟨g1, 0, none⟩) n c1] 34 (0, 0))
  rs : Rf W 4 (.slice sa TN sc) TN (T.flatMap ecs)
  rb : Rf W 4 (.slice ba TN bc) TN (T.flatMap ecs)
  q1 : n + 5 ≤ c1
  q2 : m + 5 ≤ c2
  tw1 : Rf W 8 (.slice (some ⟨g1, 0, none⟩) (n + 5) c1) (n + 5) ((xsT xs 5).flatMap Ins.cells)
  tw2 : Rf W 3 (.slice (some ⟨g2, 0, none⟩) (m + 5) c2) (m + 5) ((vsT al 5).flatMap vcs)
  vc : VC W p T
  fi : EfB W b12 f.st f.at_ f.td f.wr f.lk t1 t2 t3 k1 k2 k3
section
variable {w : World} {nm : ByteArray} {ar : Int} {S : Value} {xs : List Ins} {al : List Vd} {T : KV} {TN : Nat} {f : Ef} {n m b7 b8 b9 b12 p : Nat} {sa ba : Option Addr} {sc bc g1 c1 g2 c2 : Nat} {t1 t2 t3 : Option Addr} {k1 k2 k3 : Nat} {W W' : World}
theorem OA.below (h : OA w nm ar S xs al T TN f n m b7 b8 b9 b12 p sa ba sc bc g1 c1 g2 c2 t1 t2 t3 k1 k2 k3 W) (hb : Below W.heap.size W W') : OA w nm ar S xs al T TN f n m b7 b8 b9 b12 p sa ba sc bc g1 c1 g2 c2 t1 t2 t3 k1 k2 k3 W' :=
  ⟨h.en, h.em, below_on h.bl hb, blk_of hb h.x4 (hp_lt h.x4), blk_of hb h.x7 (hp_lt h.x7), blk_of hb h.x8 (hp_lt h.x8), blk_of hb h.x9 (hp_lt h.x9), h.rs.below hb, h.rb.below hb, h.q1, h.q2, h.tw1.below hb, h.tw2.below hb, h.vc.below hb, h.fi.below hb⟩
theorem OA.code (h : OA w nm ar S xs al T TN f n m b7 b8 b9 b12 p sa ba sc bc g1 c1 g2 c2 t1 t2 t3 k1 k2 k3 W) : CodeAt W (.slice (some ⟨g1, 0, none⟩) n c1) xs := by
  have e := h.en
  subst e
  exact code_of_rf (rf_front (k := 5) (ds := ((List.range 5).map mkI).flatMap Ins.cells) (by have h5 := h.tw1; unfold xsT at h5; rw [List.flatMap_append] at h5; exact h5) (flat_len Ins.cells 8 ins_cells xs) h.q1)
theorem OA.vals (h : OA w nm ar S xs al T TN f n m b7 b8 b9 b12 p sa ba sc bc g1 c1 g2 c2 t1 t2 t3 k1 k2 k3 W) : Va W (.slice (some ⟨g2, 0, none⟩) m c2) al := by
  have e := h.em
  subst e
  exact va_of_rf (rf_front (k := 5) (ds := ((List.range 5).map mkV).flatMap vcs) (by have h5 := h.tw2; unfold vsT at h5; rw [List.flatMap_append] at h5; exact h5) (flat_len vcs 3 vcs_len al) h.q2)
end
theorem EfO.w {B : Nat} {w' : World} {f : Ef} {t1 t2 t3 : Option Addr} {k1 k2 k3 : Nat} (h : EfO B w' f t1 t2 t3 k1 k2 k3) : EfW w' f.td f.wr f.lk t1 t2 t3 k1 k2 k3 :=
  ⟨owns_mono h.o1 (Nat.zero_le _), owns_mono h.o2 (Nat.zero_le _), owns_mono h.o3 (Nat.zero_le _)⟩
structure OB (w : World) (nm : ByteArray) (ar : Int) (S : Value) (W : World) : Prop where
  bl : Below w.heap.size w W
  x4 : W.heap[w.heap.size]? = some (.cells #[.string nm, .int .i64 ar, S] 34 (0, 0))
theorem OB.go {w W W' : World} {nm : ByteArray} {ar : Int} {S : Value} (h : OB w nm ar S W) (hb : Below W.heap.size W W') : OB w nm ar S W' := ⟨below_on h.bl hb, blk_of hb h.x4 (hp_lt h.x4)⟩
set_option maxHeartbeats 16000000 in
theorem own_law (v : Value) (es : List (ByteArray × Vd)) (nm : ByteArray) (ar : Int) (S A : Value) (xs : List Ins) (al : List Vd) (w : World) (dig : Int → List Int) (T : KV) (f : Ef) (h : Rf w 4 v es.length (es.flatMap ecs)) (hT : T = mdG (es.take 400)) (hc : Rf w 8 S xs.length (xs.flatMap Ins.cells)) (ha : Rf w 3 A al.length (al.flatMap vcs)) (hl : xs.length ≤ 1000) (hla : al.length ≤ 1000)
    (hie : ∀ x ∈ es, inR x.2.i = true) (hi : ∀ x ∈ xs, inR x.i = true) (hv : ∀ x ∈ al, inR x.i = true) (hd : Digs dig w) (hf : efR dig T nm ar xs al = f) (hE : EndsOk xs.length f) :
    Calls Tryz.prog 4 #[v, .agg #[.string nm, .int .i64 ar, S], A] w fun e w' => e = .returned (.bool true) ∧ Below w.heap.size w w' := by
  have hTO : SOk T := by rw [hT]; exact mdG_ok _
  have hTl : T.length ≤ 400 := by rw [hT]; exact mdG_len es 400
  have hTi : ∀ x ∈ T, inR x.2.i = true := fun x hx => hie x (List.mem_of_mem_take (mdG_mem (by rw [← hT]; exact hx)))
  obtain ⟨ac, cc, rfl, -, -⟩ := hc.shape
  obtain ⟨aa, ca, rfl, -, -⟩ := ha.shape
  obtain ⟨TN, hTN⟩ : ∃ TN, TN = T.length := ⟨_, rfl⟩
  obtain ⟨n, hn⟩ : ∃ n, n = xs.length := ⟨_, rfl⟩
  obtain ⟨m, hm⟩ : ∃ m, m = al.length := ⟨_, rfl⟩
  have HMD := hid (fun (W : World) (hb : Below w.heap.size w W) => (show Calls Tryz.prog 6 #[v] W fun e w' => ∃ a c, e = .returned (.agg #[.slice a TN c, .slice none 0 0]) ∧ Rf w' 4 (.slice a TN c) TN (T.flatMap ecs) ∧ Below W.heap.size W w' by rw [hTN, hT]; exact made_store v es W (h.below hb)))
  have HTW := hid (fun (W : World) (hb : Below w.heap.size w W) => (show Calls Tryz.prog 11 #[.agg #[.string nm, .int .i64 ar, .slice ac n cc], .slice aa m ca] W fun e w' => ∃ g1 c1 g2 c2, e = .returned (.tuple #[.agg #[.string nm, .int .i64 ar, .slice (some ⟨g1, 0, none⟩) n c1], .slice (some ⟨g2, 0, none⟩) m c2]) ∧ n + 5 ≤ c1 ∧ m + 5 ≤ c2 ∧
    Rf w' 8 (.slice (some ⟨g1, 0, none⟩) (n + 5) c1) (n + 5) ((xsT xs 5).flatMap Ins.cells) ∧ Rf w' 3 (.slice (some ⟨g2, 0, none⟩) (m + 5) c2) (m + 5) ((vsT al 5).flatMap vcs) ∧ Below W.heap.size W w' by
      have h5 := twin_any nm ar _ _ xs al W (hc.below hb) (ha.below hb) hl hla
      unfold TwP at h5
      rw [← hn, ← hm] at h5
      exact h5))
  have HST := hid (fun (W : World) (a : Option Addr) (c : Nat) (hR : Rf W 4 (.slice a TN c) TN (T.flatMap ecs)) => store_vc (.slice a TN c) T W (by rw [← hTN]; exact hR) (by omega) hTO)
  have HRUN := hid (fun (W : World) (p : Nat) (C V : Value) (hb : Below w.heap.size w W) (h1 : CodeAt W C xs) (h2 : Va W V al) (hV : VL W p T) => run_own p V C nm ar xs al W dig T h1 h2 hl hla hi hv hV (hTO.lok hTi) (hd.below hb) f hf)
  have HKn := hid (fun W => known_any W)
  have HEE := hid hE
  have HL := hid (And.intro hTN (And.intro hn (And.intro hm (And.intro hl (And.intro hla hTl)))))
  have HP := hid (And.intro hTO (And.intro hc (And.intro ha trivial)))
  rw [← hn, ← hm]
  have l1 : ¬ (1000 : Int) < (n : Int) := by omega
  have l2 : ¬ (1000 : Int) < (m : Int) := by omega
  clear h hT hc ha hl hla hie hi hv hd hf hE hTO hTl hTi hTN hn hm
  have H0 := hid (show OB w nm ar (.slice ac n cc) (w.alloc (.cells #[.string nm, .int .i64 ar, .slice ac n cc] 34)) from ⟨below1 w _, hp_new w _⟩)
  go_enter Tryz.func4, Tryz.ntmps4
  go_upto_region 1 with fail
  refine cutG (fun W => OB w nm ar (.slice ac n cc) W) H0.out ?_
  intro W0 hW0
  obtain ⟨p0, p1, p2, -⟩ := vfacts hW0.x4
  clear H0
  have H0 := hid hW0
  clear hW0
  go_upto_region 4 with (
    go_at_call 6
    refine (HMD.out _ H0.out.bl).mono ?_
    rintro e w1 ⟨sa, sc, rfl, hR1, hb1⟩
    have H1 := hid (H0.out.go hb1)
    have HR1 := hid hR1
    clear hb1 hR1)
  refine cutG (fun W => OB w nm ar (.slice ac n cc) W ∧ W.heap[w1.heap.size]? = some (.cells #[.slice sa TN sc, .slice none 0 0] 26 (0, 0)) ∧ Rf W 4 (.slice sa TN sc) TN (T.flatMap ecs)) ⟨H1.out.go (below1 w1 _), hp_new w1 _, HR1.out.below (below1 w1 _)⟩ ?_
  clear H1 HR1 H0 p0 p1 p2
  generalize w1.heap.size = b7
  rintro W1 ⟨hB, h7, hr7⟩
  have H1 := hid (And.intro hB (And.intro h7 hr7))
  clear hB h7 hr7 w1 W0
  go_upto_region 5 with (
    go_at_call 6
    refine (HMD.out _ H1.out.1.bl).mono ?_
    rintro e w2 ⟨ba, bc, rfl, hR2, hb2⟩
    have H2 := hid (And.intro (H1.out.1.go hb2) (And.intro (blk_of hb2 H1.out.2.1 (hp_lt H1.out.2.1)) (H1.out.2.2.below hb2)))
    have HR2 := hid hR2
    clear hb2 hR2)
  refine cutG (fun W => OB w nm ar (.slice ac n cc) W ∧ W.heap[b7]? = some (.cells #[.slice sa TN sc, .slice none 0 0] 26 (0, 0)) ∧ Rf W 4 (.slice sa TN sc) TN (T.flatMap ecs) ∧ W.heap[w2.heap.size]? = some (.cells #[.slice ba TN bc, .slice none 0 0] 26 (0, 0)) ∧ Rf W 4 (.slice ba TN bc) TN (T.flatMap ecs)) ⟨H2.out.1.go (below1 w2 _), hp_alloc H2.out.2.1 _, H2.out.2.2.below (below1 w2 _), hp_new w2 _, HR2.out.below (below1 w2 _)⟩ ?_
  clear H2 HR2 H1 HMD
  generalize w2.heap.size = b8
  rintro W2 ⟨hB, h7, hr7, h8, hr8⟩
  obtain ⟨p0, p1, p2, -⟩ := vfacts hB.x4
  have hz4 := hp_lt hB.x4
  have H2 := hid (And.intro hB (And.intro h7 (And.intro hr7 (And.intro h8 hr8))))
  clear hB h7 hr7 h8 hr8 w2 W1
  go_upto_region 6 with (
    go_at_call 11
    refine (HTW.out _ H2.out.1.bl).mono ?_
    rintro e w3 ⟨g1, c1, g2, c2, rfl, hq1, hq2, hr1, hr2, hb3⟩
    have H3 := hid (And.intro (H2.out.1.go hb3) (And.intro (blk_of hb3 H2.out.2.1 (hp_lt H2.out.2.1)) (And.intro (H2.out.2.2.1.below hb3) (And.intro (blk_of hb3 H2.out.2.2.2.1 (hp_lt H2.out.2.2.2.1)) (H2.out.2.2.2.2.below hb3)))))
    have HR3 := hid (And.intro hq1 (And.intro hq2 (And.intro hr1 hr2)))
    clear hb3 hq1 hq2 hr1 hr2)
  refine cutG (fun W => OB w nm ar (.slice ac n cc) W ∧ W.heap[b7]? = some (.cells #[.slice sa TN sc, .slice none 0 0] 26 (0, 0)) ∧ Rf W 4 (.slice sa TN sc) TN (T.flatMap ecs) ∧ W.heap[b8]? = some (.cells #[.slice ba TN bc, .slice none 0 0] 26 (0, 0)) ∧ Rf W 4 (.slice ba TN bc) TN (T.flatMap ecs) ∧ W.heap[w3.heap.size]? = some (.cells #[.string nm, .int .i64 ar, .slice (some ⟨g1, 0, none⟩) n c1] 34 (0, 0)) ∧ Rf W 8 (.slice (some ⟨g1, 0, none⟩) (n + 5) c1) (n + 5) ((xsT xs 5).flatMap Ins.cells) ∧ Rf W 3 (.slice (some ⟨g2, 0, none⟩) (m + 5) c2) (m + 5) ((vsT al 5).flatMap vcs)) ⟨H3.out.1.go (below1 w3 _), hp_alloc H3.out.2.1 _, H3.out.2.2.1.below (below1 w3 _), hp_alloc H3.out.2.2.2.1 _, H3.out.2.2.2.2.below (below1 w3 _), hp_new w3 _, HR3.out.2.2.1.below (below1 w3 _), HR3.out.2.2.2.below (below1 w3 _)⟩ ?_
  have HQ3 := hid (And.intro HR3.out.1 HR3.out.2.1)
  clear H3 H2 HTW p0 p1 p2 hz4 HR3
  generalize w3.heap.size = b9
  rintro W3 ⟨hB, h7, hr7, h8, hr8, h9, ht1, ht2⟩
  obtain ⟨s0, s1, -⟩ := cells2f h7
  have hz7 := hp_lt h7
  have H3 := hid (And.intro hB (And.intro h7 (And.intro hr7 (And.intro h8 (And.intro hr8 (And.intro h9 (And.intro ht1 ht2)))))))
  clear hB h7 hr7 h8 hr8 h9 ht1 ht2 w3 W2
  go_upto_region 7 with (
    go_at_call 8
    refine (HST.out _ sa sc H3.out.2.2.1).mono ?_
    rintro e w4 ⟨p, rfl, hvc, hb4⟩
    have H4 := hid (And.intro (H3.out.1.go hb4) (And.intro (blk_of hb4 H3.out.2.1 (hp_lt H3.out.2.1)) (And.intro (H3.out.2.2.1.below hb4) (And.intro (blk_of hb4 H3.out.2.2.2.1 (hp_lt H3.out.2.2.2.1)) (And.intro (H3.out.2.2.2.2.1.below hb4) (And.intro (blk_of hb4 H3.out.2.2.2.2.2.1 (hp_lt H3.out.2.2.2.2.2.1)) (And.intro (H3.out.2.2.2.2.2.2.1.below hb4) (H3.out.2.2.2.2.2.2.2.below hb4))))))))
    have HV4 := hid hvc
    clear hb4 hvc)
  clear H3 HST s0 s1 hz7
  obtain ⟨y0, y1, y2, -⟩ := vfacts H4.out.2.2.2.2.2.1
  have hz9 := hp_lt H4.out.2.2.2.2.2.1
  have HCd := hid (show CodeAt w4 (.slice (some ⟨g1, 0, none⟩) n c1) xs ∧ Va w4 (.slice (some ⟨g2, 0, none⟩) m c2) al from by
    have h1 := H4.out.2.2.2.2.2.2.1
    have h2 := H4.out.2.2.2.2.2.2.2
    have q1 := HQ3.out.1
    have q2 := HQ3.out.2
    have e1 := HL.out.2.1
    have e2 := HL.out.2.2.1
    rw [e1] at h1 q1 ⊢
    rw [e2] at h2 q2 ⊢
    exact ⟨code_of_rf (rf_front (k := 5) (ds := ((List.range 5).map mkI).flatMap Ins.cells) (by unfold xsT at h1; rw [List.flatMap_append] at h1; exact h1) (flat_len Ins.cells 8 ins_cells xs) q1), va_of_rf (rf_front (k := 5) (ds := ((List.range 5).map mkV).flatMap vcs) (by unfold vsT at h2; rw [List.flatMap_append] at h2; exact h2) (flat_len vcs 3 vcs_len al) q2)⟩)
  go_upto_region 8 with (
    go_at_call 7
    refine (HRUN.out _ p _ _ H4.out.1.bl HCd.out.1 HCd.out.2 HV4.out.vl).mono ?_
    rintro e w5 ⟨t1, k1, t2, k2, t3, k3, rfl, hE5, hb5⟩
    have H5 := hid (And.intro hE5 hb5)
    clear hE5 hb5)
  have hOA : OA w nm ar (.slice ac n cc) xs al T TN f n m b7 b8 b9 w5.heap.size p sa ba sc bc g1 c1 g2 c2 t1 t2 t3 k1 k2 k3 (w5.alloc (.cells #[.int .i64 f.st, .int .i64 f.at_, .slice t1 f.td.length k1, .slice t2 f.wr.length k2, .slice t3 f.lk.length k3] 40)) := by
    have hb := (H5.out.2.alloc H5.out.2.size (.cells #[.int .i64 f.st, .int .i64 f.at_, .slice t1 f.td.length k1, .slice t2 f.wr.length k2, .slice t3 f.lk.length k3] 40))
    obtain ⟨a1, a2, a3, a4, a5, a6, a7, a8⟩ := H4.out
    exact ⟨HL.out.2.1, HL.out.2.2.1, (a1.go hb).bl, (a1.go hb).x4, blk_of hb a2 (hp_lt a2), blk_of hb a4 (hp_lt a4), blk_of hb a6 (hp_lt a6), a3.below hb, a5.below hb, HQ3.out.1, HQ3.out.2, a7.below hb, a8.below hb, HV4.out.below hb, H5.out.1.w.new⟩
  refine cutG (OA w nm ar (.slice ac n cc) xs al T TN f n m b7 b8 b9 w5.heap.size p sa ba sc bc g1 c1 g2 c2 t1 t2 t3 k1 k2 k3) hOA ?_
  clear hOA H5 H4 HV4 HCd HQ3 y0 y1 y2 hz9
  generalize w5.heap.size = b12
  clear w4 w5 W3
  intro WA hOA
  have HA := hid hOA
  clear hOA
  go_wp2_with fail
  go_loopw [14] (fun ix wr => ∃ (i : Nat) (A1 A2 A3 : Nat → Option Addr) (q1 q2 q3 : Nat → Nat) (L : Nat → Nat), i ≤ 3 ∧ ix = .int .i64 i ∧ Hid (OF WA wr f i A1 A2 A3 q1 q2 q3 L)) (fun ix _ => 3 - (intOf ix).toNat)
  case atStart => exact ⟨0, _, _, _, _, _, _, _, by omega, by go_num, hid (of_zero WA f _ rfl)⟩
  case round =>
    obtain ⟨i, A1, A2, A3, q1, q2, q3, L, hi3, rfl, HF⟩ := hrel
    by_cases hlt : i < 3
    · have i1 : (i : Int) < 3 := by omega
      have hOA := HA.out.below HF.out.bl
      obtain ⟨y0, y1, y2, -⟩ := vfacts hOA.x9
      have hz9 := hp_lt hOA.x9
      have HO := hid hOA
      clear hOA hi3
      go_wp2_with (
        go_at_call 7
        refine (HRUN.out _ p _ _ HO.out.bl HO.out.code HO.out.vals HO.out.vc.vl).mono ?_
        rintro e w5 ⟨t1', k1', t2', k2', t3', k3', rfl, hE5, hb5⟩
        have HS := hid (HF.out.step hlt hE5 hb5)
        obtain ⟨⟨u0, u1, u2, u3, u4, d0, d1, d2, d3, d4⟩, fz⟩ := (HF.out.below hb5).cells hlt
        have hzA := World.block_lt_of_cell? _ _ d0
        dsimp only at hzA
        clear hE5 hb5)
      go_roundw
      case rel => exact ⟨i + 1, _, _, _, _, _, _, _, by omega, by go_num, HS⟩
      case measure => simp [intOf]; omega
    · obtain rfl : i = 3 := by omega
      clear hlt hi3
      rw [show ((3 : Nat) : Int) = 3 from rfl]
      go_wp2_with fail
      go_loopw [15] (fun ix wr => ∃ j : Nat, j ≤ 3 ∧ ix = .int .i64 j ∧ Hid (OF WA wr f 3 A1 A2 A3 q1 q2 q3 L)) (fun ix _ => 3 - (intOf ix).toNat)
      case atStart => exact ⟨0, by omega, by go_num, HF⟩
      case round =>
        clear HF
        obtain ⟨j, hj3, rfl, HF⟩ := hrel
        by_cases hlt : j < 3
        · have i1 : (j : Int) < 3 := by omega
          have HC := hid (show ∀ W, Below wr.heap.size wr W → (W.cell? ⟨WA.heap.size, j * 5, none⟩ = some (.int .i64 f.st) ∧ W.cell? ⟨WA.heap.size, j * 5 + 1, none⟩ = some (.int .i64 f.at_) ∧ W.cell? ⟨WA.heap.size, j * 5 + 2, none⟩ = some (.slice (A1 j) f.td.length (q1 j)) ∧ W.cell? ⟨WA.heap.size, j * 5 + 3, none⟩ = some (.slice (A2 j) f.wr.length (q2 j)) ∧ W.cell? ⟨WA.heap.size, j * 5 + 4, none⟩ = some (.slice (A3 j) f.lk.length (q3 j)) ∧ W.cell? ⟨b12, 0, none⟩ = some (.int .i64 f.st) ∧ W.cell? ⟨b12, 1, none⟩ = some (.int .i64 f.at_) ∧ W.cell? ⟨b12, 2, none⟩ = some (.slice t1 f.td.length k1) ∧ W.cell? ⟨b12, 3, none⟩ = some (.slice t2 f.wr.length k2) ∧ W.cell? ⟨b12, 4, none⟩ = some (.slice t3 f.lk.length k3)) from fun W hb => by
            obtain ⟨c0, c1, c2, c3, c4⟩ := (HF.out.below hb).at_ hlt
            obtain ⟨e0, e1, e2, e3, e4, -⟩ := cells5f (HA.out.below (HF.out.below hb).bl).fi.bx
            exact ⟨c0, c1, c2, c3, c4, e0, e1, e2, e3, e4⟩)
          have HSM := hid (fun (W : World) (hb : Below wr.heap.size wr W) => of_same (HF.out.below hb) (HA.out.below (HF.out.below hb).bl).fi hlt HEE.out)
          clear hj3
          go_upto_region 16 with fail
          go_region_held3 (fun wx => wx.cell? ⟨WA.heap.size, j * 5, none⟩ = some (.int .i64 f.st) ∧ wx.cell? ⟨WA.heap.size, j * 5 + 1, none⟩ = some (.int .i64 f.at_) ∧ wx.cell? ⟨WA.heap.size, j * 5 + 2, none⟩ = some (.slice (A1 j) f.td.length (q1 j)) ∧ wx.cell? ⟨WA.heap.size, j * 5 + 3, none⟩ = some (.slice (A2 j) f.wr.length (q2 j)) ∧ wx.cell? ⟨WA.heap.size, j * 5 + 4, none⟩ = some (.slice (A3 j) f.lk.length (q3 j)) ∧ wx.cell? ⟨b12, 0, none⟩ = some (.int .i64 f.st) ∧ wx.cell? ⟨b12, 1, none⟩ = some (.int .i64 f.at_) ∧ wx.cell? ⟨b12, 2, none⟩ = some (.slice t1 f.td.length k1) ∧ wx.cell? ⟨b12, 3, none⟩ = some (.slice t2 f.wr.length k2) ∧ wx.cell? ⟨b12, 4, none⟩ = some (.slice t3 f.lk.length k3))
            (first | exact HC.out _ H2.out | exact HC.out _ ((Below.refl _ _).drew))
            (first
            | (go_at_call 12
               refine (HSM.out _ ((Below.refl _ _).drew)).mono ?_
               rintro e w2 ⟨rfl, hb2⟩
               have H2 := hid (below_on ((Below.refl _ _).drew) hb2)
               clear hb2))
          go_wp2_with fail
          go_roundw
          case rel => exact ⟨j + 1, by omega, by go_num, hid (HF.out.below H2.out)⟩
          case measure => simp [intOf]; omega
        · obtain rfl : j = 3 := by omega
          rw [show ((3 : Nat) : Int) = 3 from rfl]
          clear hlt hj3
          go_wp2_with fail
          as_aux_lemma =>
           obtain ⟨n1, e1⟩ : ∃ n, f.td.length = n := ⟨_, rfl⟩
           obtain ⟨n2, e2⟩ : ∃ n, f.wr.length = n := ⟨_, rfl⟩
           obtain ⟨n3, e3⟩ : ∃ n, f.lk.length = n := ⟨_, rfl⟩
           have HD := hid (HF.out.ds e1 e2 e3)
           have hm1 : n1 ≤ 64 := by rw [← e1]; exact HEE.out.tdl
           have hm2 : n2 ≤ 64 := by rw [← e2]; exact HEE.out.wrl
           have hm3 : n3 ≤ 64 := by rw [← e3]; exact HEE.out.lkl
           clear HF e1 e2 e3
           go_wp2_with fail
           go_loopw [16] (fun ix wr => ∃ i : Nat, i ≤ 3 ∧ ix = .int .i64 i ∧ Hid (DS WA wr f A1 A2 A3 q1 q2 q3 L n1 n2 n3 i 0 0 0)) (fun ix _ => 3 - (intOf ix).toNat)
           case atStart => exact ⟨0, by omega, by go_num, HD⟩
           case round =>
            clear HD
            obtain ⟨i, hi3, rfl, HD⟩ := hrel
            by_cases hlt : i < 3
            ·have i1 : (i : Int) < 3 := by omega
             as_aux_lemma =>
              go_wp2_with fail
              go_loopw [17] (fun ix wr => ∃ k : Nat, k ≤ n1 ∧ ix = .int .i64 k ∧ Hid (DS WA wr f A1 A2 A3 q1 q2 q3 L n1 n2 n3 i k 0 0)) (fun ix _ => n1 - (intOf ix).toNat)
              case atStart => exact ⟨0, Nat.zero_le _, by go_num, HD⟩
              case round =>
               clear HD
               obtain ⟨k, hk, rfl, HD⟩ := hrel
               obtain ⟨c2, -, -⟩ := HD.out.at_ hlt
               by_cases hlk : k < n1
               ·have i2 : (k : Int) < (n1 : Int) := by omega
                obtain ⟨g, cap, hA, hq, hc1, hc2, ⟨u0, u1, u2, z0, z1, z2⟩, hfz, hset⟩ := HD.out.set1 hlt hlk
                rw [hA, hq] at c2
                have hzg := World.block_lt_of_cell? _ _ z0
                dsimp only at hzg
                have hset := hid hset
                clear hA hq
                go_wp2_with fail
                go_roundw
                case rel => exact ⟨k + 1, by omega, by go_num, hid (hset.out _ _ ⟨rfl, rfl⟩)⟩
                case measure => simp [intOf]; omega
               ·obtain rfl : n1 = k := by omega
                clear hk hlk
                go_wp2_with fail
                clear c2
                go_loopw [18] (fun ix wr => ∃ k : Nat, k ≤ n2 ∧ ix = .int .i64 k ∧ Hid (DS WA wr f A1 A2 A3 q1 q2 q3 L n1 n2 n3 i n1 k 0)) (fun ix _ => n2 - (intOf ix).toNat)
                case atStart => exact ⟨0, Nat.zero_le _, by go_num, HD⟩
                case round =>
                 clear HD
                 obtain ⟨k, hk, rfl, HD⟩ := hrel
                 obtain ⟨-, c3, -⟩ := HD.out.at_ hlt
                 by_cases hlk : k < n2
                 ·have i2 : (k : Int) < (n2 : Int) := by omega
                  obtain ⟨g, cap, hA, hq, hc1, hc2, ⟨u0, u1, u2, u3, z0, z1, z2, z3⟩, hfz, hset⟩ := HD.out.set2 hlt hlk
                  rw [hA, hq] at c3
                  have hzg := World.block_lt_of_cell? _ _ z0
                  dsimp only at hzg
                  have hset := hid hset
                  clear hA hq
                  go_wp2_with fail
                  go_roundw
                  case rel => exact ⟨k + 1, by omega, by go_num, hid (hset.out _ _ _ ⟨rfl, rfl, rfl⟩)⟩
                  case measure => simp [intOf]; omega
                 ·obtain rfl : n2 = k := by omega
                  clear hk hlk
                  go_wp2_with fail
                  clear c3
                  go_loopw [19] (fun ix wr => ∃ k : Nat, k ≤ n3 ∧ ix = .int .i64 k ∧ Hid (DS WA wr f A1 A2 A3 q1 q2 q3 L n1 n2 n3 i n1 n2 k)) (fun ix _ => n3 - (intOf ix).toNat)
                  case atStart => exact ⟨0, Nat.zero_le _, by go_num, HD⟩
                  case round =>
                   clear HD
                   obtain ⟨k, hk, rfl, HD⟩ := hrel
                   obtain ⟨-, -, c4⟩ := HD.out.at_ hlt
                   by_cases hlk : k < n3
                   ·have i2 : (k : Int) < (n3 : Int) := by omega
                    obtain ⟨g, cap, hA, hq, hc1, hc2, ⟨u0, u1, z0, z1⟩, hfz, hzg, hgne, hset⟩ := HD.out.set3 hlt hlk
                    rw [hA, hq] at c4
                    have hset := hid hset
                    have hw8 : IntKind.u8.wrap (10 + (i : Int)) = 10 + (i : Int) := by rw [IntKind.wrap_u8]; omega
                    have hcv := conv_newD (10 + (i : Int))
                    have hw10 : IntKind.i64.wrap (10 + (i : Int)) = 10 + (i : Int) := by rw [IntKind.wrap_i64]; omega
                    have HC := hid (show ∀ W, Below wr.heap.size wr W → W.cell? ⟨WA.heap.size, i * 5 + 4, none⟩ = some (.slice (some ⟨g, 0, none⟩) n3 cap) from fun W hb => by
                     have h := ((HD.out.below hb).at_ hlt).2.2
                     rw [hA, hq] at h
                     exact h)
                    have HNE := hid hgne
                    clear hA hq hgne
                    go_upto_region 32 with fail
                    refine wp_region_held_drew (S := (fun wx => wx.cell? ⟨WA.heap.size, i * 5 + 4, none⟩ = some (.slice (some ⟨g, 0, none⟩) n3 cap))) (by kernel_rfl) (c4) (fun hH => ?_)
                    refine tk 0 ⟨some 131, .move (.tmp 16), 3, "outright.go:180", #[], none⟩ hH ?_; simp only [pua, puz, pus]
                    refine tk 1 ⟨some 132, .indexAddr 51 (.tmp 13) (.tmp 131), 0, "outright.go:180", #[⟨0, .data⟩], none⟩ hH ?_; simp only [pua, puz, pus]
                    refine tk 2 ⟨some 133, .fieldAddr 40 (.tmp 132) 2, 0, "outright.go:180", #[⟨1, .data⟩], none⟩ hH ?_; simp only [pua, puz, pus]
                    refine tk 3 ⟨some 134, .load 38 (.tmp 133), 38, "outright.go:180", #[⟨2, .data⟩], none⟩ hH ?_; simp only [pua, puz, pus]
                    refine tk 4 ⟨some 135, .move (.tmp 19), 3, "outright.go:180", #[], none⟩ hH ?_; simp only [pua, puz, pus]
                    refine tk 5 ⟨some 136, .move (.tmp 16), 3, "outright.go:180", #[], none⟩ hH ?_; simp only [pua, puz, pus]
                    refine tk 6 ⟨some 137, .binOp .add 3 (.const (.int .i64 10)) (.tmp 136) 3, 3, "outright.go:180", #[⟨5, .data⟩], none⟩ hH ?_; simp only [pua, puz, pus]
                    refine tk 7 ⟨some 138, .convert 3 5 (.tmp 137), 5, "outright.go:180", #[⟨6, .data⟩], none⟩ hH ?_; simp only [pua, puz, pus]
                    refine rd 8 ⟨some 139, .buildSlice 53 1 #[(0, .tmp 138)], 53, "outright.go:180", #[⟨7, .data⟩], none⟩ (fun K hK => ?_); go_simp
                    clear hH; refine hK.out _ _ (HC.out _ (below1 _ _).drew) (fun hH => ?_)
                    clear hK K; (try simp only [pua, puz, pus])
                    refine rd 9 ⟨some 140, .convert 53 9 (.tmp 139), 9, "outright.go:180", #[⟨8, .data⟩], none⟩ (fun K hK => ?_); go_simp
                    clear hH; refine hK.out _ _ (HC.out _ (below1 _ _).drew) (fun hH => ?_)
                    clear hK K; (try simp only [pua, puz, pus])
                    refine tk 10 ⟨some 141, .build 55 #[(0, .tmp 140)], 55, "outright.go:180", #[⟨9, .data⟩], none⟩ hH ?_; simp only [pua, puz, pus]
                    refine tk 11 ⟨some 142, .indexAddr 38 (.tmp 134) (.tmp 135), 0, "outright.go:180", #[⟨3, .data⟩, ⟨4, .data⟩, ⟨0, .phase⟩, ⟨1, .phase⟩, ⟨2, .phase⟩, ⟨3, .phase⟩, ⟨4, .phase⟩, ⟨5, .phase⟩, ⟨6, .phase⟩, ⟨7, .phase⟩, ⟨8, .phase⟩, ⟨9, .phase⟩, ⟨10, .phase⟩], none⟩ hH ?_; simp only [pua, puz, pus]
                    refine rd 12 ⟨none, .store 55 (.tmp 142) (.tmp 141), 0, "outright.go:180", #[⟨11, .data⟩, ⟨10, .data⟩, ⟨0, .phase⟩, ⟨1, .phase⟩, ⟨2, .phase⟩, ⟨3, .phase⟩, ⟨4, .phase⟩, ⟨5, .phase⟩, ⟨6, .phase⟩, ⟨7, .phase⟩, ⟨8, .phase⟩, ⟨9, .phase⟩, ⟨10, .phase⟩], none⟩ (fun K hK => ?_); go_simp
                    clear hH; refine hK.out _ _ (cell_set2a HNE.out (HC.out _ (Below.refl _ _)) _ _ _ _ _) (fun hH => ?_)
                    clear hK K; (try simp only [pua, puz, pus])
                    refine wpAnyH_done (by kernel_rfl) ?_ _
                    clear hH
                    go_wp2_with fail
                    go_roundw
                    case rel => exact ⟨k + 1, by omega, by go_num, hid ((hset.out _ (Below.refl _ _) _ rfl).below (below1 _ _).drew)⟩
                    case measure => simp [intOf]; omega
                   ·obtain rfl : n3 = k := by omega
                    clear hk hlk
                    go_wp2_with fail
                    clear c4
                    go_roundw
                    case rel => exact ⟨i + 1, by omega, by go_num, hid HD.out.next⟩
                    case measure => simp [intOf]; omega
            ·obtain rfl : i = 3 := by omega
             rw [show ((3 : Nat) : Int) = 3 from rfl]
             clear hi3 hlt
             as_aux_lemma =>
              go_upto_region 34 with fail
              have hg1 : WA.heap.size < wr.heap.size := HD.out.lt
              refine cutG (fun W => DS WA W f A1 A2 A3 q1 q2 q3 L n1 n2 n3 3 0 0 0 ∧ ∃ cs, W.heap[wr.heap.size]? = some (.cells cs 56 (0, 0)) ∧ cs.size = 3) ⟨HD.out.below (below1 wr _), _, hp_new wr _, rfl⟩ ?_
              generalize wr.heap.size = b1 at hg1 ⊢
              rintro W1 ⟨hD1, h1⟩
              go_upto_region 35 with fail
              have hg2 : WA.heap.size < W1.heap.size := hD1.lt
              refine cutG (fun W => DS WA W f A1 A2 A3 q1 q2 q3 L n1 n2 n3 3 0 0 0 ∧ (∃ cs, W.heap[b1]? = some (.cells cs 56 (0, 0)) ∧ cs.size = 3) ∧ ∃ cs, W.heap[W1.heap.size]? = some (.cells cs 57 (0, 0)) ∧ cs.size = 3) ⟨hD1.below (below1 W1 _), (by obtain ⟨cs, h2, h3⟩ := h1; exact ⟨cs, hp_alloc h2 _, h3⟩), _, hp_new W1 _, rfl⟩ ?_
              clear hD1 h1
              generalize W1.heap.size = b2 at hg2 ⊢
              rintro W2 ⟨hD1, h1, h2⟩
              go_upto_region 36 with fail
              have hg3 : WA.heap.size < W2.heap.size := hD1.lt
              refine cutG (fun W => EO WA W f A1 A2 A3 q1 q2 q3 (L 0) b1 b2 W2.heap.size n1 n2 n3 0) ((hD1.below (below1 W2 _)).eo (by obtain ⟨cs, h3, h4⟩ := h1; exact ⟨cs, hp_alloc h3 _, h4⟩) (by obtain ⟨cs, h3, h4⟩ := h2; exact ⟨cs, hp_alloc h3 _, h4⟩) ⟨_, hp_new W2 _, rfl⟩ hg1 hg2 hg3) ?_
              clear hD1 h1 h2
              generalize W2.heap.size = b3 at hg3 ⊢
              intro W3 hE
              have HE := hid hE
              clear hE HD W1 W2 wr
              go_wp2_with fail
              go_loopw [23] (fun ix wr => ∃ i : Nat, i ≤ 3 ∧ ix = .int .i64 i ∧ Hid (EO WA wr f A1 A2 A3 q1 q2 q3 (L 0) b1 b2 b3 n1 n2 n3 i)) (fun ix _ => 3 - (intOf ix).toNat)
              case atStart => exact ⟨0, by omega, by go_num, HE⟩
              case round =>
               clear HE
               obtain ⟨i, hi3, rfl, HE⟩ := hrel
               by_cases hlt : i < 3
               ·have i1 : (i : Int) < 3 := by omega
                as_aux_lemma =>
                 obtain ⟨c2, c3, c4⟩ := HE.out.at_ hlt
                 have HE' := hid (HE.out.ei hlt)
                 clear HE
                 go_wp2_with fail
                 clear c2 c3 c4
                 go_loopw [24, 25, 26, 27] (fun x y z ix wr => ∃ (k : Nat) (a1 : Option Addr) (r1 : Nat) (a2 : Option Addr) (r2 : Nat) (a3 : Option Addr) (r3 : Nat), k ≤ 40 ∧ ix = .int .i64 k ∧ x = .slice a1 (n1 + k) r1 ∧ y = .slice a2 (n2 + k) r2 ∧ z = .slice a3 (n3 + k) r3 ∧ Hid (EI WA wr f A1 A2 A3 q1 q2 q3 (L 0) b1 b2 b3 n1 n2 n3 i k k k (.slice a1 (n1 + k) r1) (.slice a2 (n2 + k) r2) (.slice a3 (n3 + k) r3))) (fun _ _ _ ix _ => 40 - (intOf ix).toNat)
                 case atStart => exact ⟨0, _, _, _, _, _, _, by omega, by go_num, rfl, rfl, rfl, HE'⟩
                 case round =>
                  clear HE'
                  obtain ⟨k, a1, r1, a2, r2, a3, r3, hk, rfl, rfl, rfl, rfl, HE⟩ := hrel
                  by_cases hlk : k < 40
                  ·have i2 : (k : Int) < 40 := by omega
                   go_upto_region 46 with (at_builtin; go_loud (
                    obtain ⟨cs, ho, hv⟩ := (HE.out.below (below1 wr (.cells #[.int .i64 (100 + (i : Int)), .int .i64 0, .string ⟨#[]⟩] 29))).row1 hlt
                    refine wpList_append_keep _ rfl _ _ 35 29 _ 3 32 rfl Tryz.underlying35 Tryz.info29 rfl (by decide) (L 0) _ (n1 + k) cs rfl ho wr.heap.size 1 [.int .i64 (100 + (i : Int)), .int .i64 0, .string ⟨#[]⟩] rfl (rf_new wr 29 #[.int .i64 (100 + (i : Int)), .int .i64 0, .string ⟨#[]⟩] 3 rfl (ones3 _ _ _ rfl rfl rfl)) (by omega) (by unfold maxLen; omega) (HE.out.below (below1 wr _)).bw ?_
                    intro a1' r1' w4 hown hgr
                    have H4 := hid ((HE.out.below (below1 wr _)).app1 hlt ho hv hown.out hgr.out (by simp [mz]))
                    clear hown hgr ho hv cs))
                   clear HE
                   go_upto_region 47 with (at_builtin; go_loud (
                    obtain ⟨cs, ho, hv⟩ := (H4.out.below (below1 w4 (.cells #[.string ⟨#[]⟩, .int .i64 (100 + (i : Int)), .int .i64 0, .string ⟨#[]⟩] 45))).row2 hlt
                    refine wpList_append_keep _ rfl _ _ 22 45 _ 4 48 rfl Tryz.underlying22 Tryz.info45 rfl (by decide) (L 0) _ (n2 + k) cs rfl ho w4.heap.size 1 [.string ⟨#[]⟩, .int .i64 (100 + (i : Int)), .int .i64 0, .string ⟨#[]⟩] rfl (rf_new w4 45 #[.string ⟨#[]⟩, .int .i64 (100 + (i : Int)), .int .i64 0, .string ⟨#[]⟩] 4 rfl (ones4 _ _ _ _ rfl rfl rfl rfl)) (by omega) (by unfold maxLen; omega) (H4.out.below (below1 w4 _)).bw ?_
                    intro a2' r2' w5 hown hgr
                    have H5 := hid ((H4.out.below (below1 w4 _)).app2 hlt ho hv hown.out hgr.out (by simp [mz]))
                    clear hown hgr ho hv cs))
                   clear H4
                   go_upto_region 44 with (first | ((with_reducible show wpList _ _ _ (⟨_, Op.convert 53 9 _, _, _, _, _⟩ :: _) _ _); refine wpList_conv rfl 53 9 _ rfl (.slice (some ⟨w5.heap.size, 0, none⟩) 1 1) _ _ rfl (conv_new (100 + (i : Int)) w5) ?_) | (at_builtin; go_loud (
                    obtain ⟨cs, ho, hv⟩ := (H5.out.below ((below1 w5 (.cells #[.int .u8 (100 + (i : Int))] 5)).alloc (by simp) (.cells #[.string (mkStr [100 + (i : Int)]), .string ⟨#[]⟩] 55))).row3 hlt
                    refine wpList_append_keep _ rfl _ _ 38 55 _ 2 32 rfl Tryz.underlying38 Tryz.info55 rfl (by decide) (L 0) _ (n3 + k) cs rfl ho (w5.heap.size + 1) 1 [.string (mkStr [100 + (i : Int)]), .string ⟨#[]⟩] rfl (rf_new2 w5 (.cells #[.int .u8 (100 + (i : Int))] 5) 55 #[.string (mkStr [100 + (i : Int)]), .string ⟨#[]⟩] 2 rfl (ones2 _ _ rfl rfl)) (by omega) (by unfold maxLen; omega) (H5.out.below ((below1 w5 _).alloc (by simp) _)).bw ?_
                    intro a3' r3' w6 hown hgr
                    have H6 := hid ((H5.out.below ((below1 w5 _).alloc (by simp) _)).app3 hlt ho hv hown.out hgr.out (by simp [mk3]))
                    clear hown hgr ho hv cs)))
                   clear H5
                   go_wp2_with fail
                   go_roundw
                   case rel => exact ⟨k + 1, a1', r1', a2', r2', a3', r3', by omega, by go_num, rfl, rfl, rfl, H6⟩
                   case measure => simp [intOf]; omega
                  ·obtain rfl : k = 40 := by omega
                   rw [show ((40 : Nat) : Int) = 40 from rfl]
                   clear hk hlk
                   obtain ⟨⟨⟨u1, y1⟩, z1⟩, ⟨⟨u2, y2⟩, z2⟩, ⟨⟨u3, y3⟩, z3⟩, n12, n13, n23⟩ := HE.out.cells hlt
                   have hz1 := World.block_lt_of_cell? _ _ y1
                   have hz2 := World.block_lt_of_cell? _ _ y2
                   have hz3 := World.block_lt_of_cell? _ _ y3
                   dsimp only at hz1 hz2 hz3
                   go_wp2_with fail
                   go_roundw
                   case rel => exact ⟨i + 1, by omega, by go_num, hid (HE.out.next hlt)⟩
                   case measure => simp [intOf]; omega
               ·obtain rfl : i = 3 := by omega
                rw [show ((3 : Nat) : Int) = 3 from rfl]
                clear hi3 hlt
                as_aux_lemma =>
                 go_wp2_with fail
                 go_loopw [28] (fun ix wr => ∃ i : Nat, i ≤ 3 ∧ ix = .int .i64 i ∧ Hid (EO WA wr f A1 A2 A3 q1 q2 q3 (L 0) b1 b2 b3 n1 n2 n3 3)) (fun ix _ => 3 - (intOf ix).toNat)
                 case atStart => exact ⟨0, by omega, by go_num, HE⟩
                 case round =>
                  clear HE
                  obtain ⟨i, hi3, rfl, HE⟩ := hrel
                  by_cases hlt : i < 3
                  ·have i1 : (i : Int) < 3 := by omega
                   as_aux_lemma =>
                    have HW10 := hid (show IntKind.i64.wrap (10 + (i : Int)) = 10 + (i : Int) by rw [IntKind.wrap_i64]; omega)
                    have HB := hid (fun (k n : Nat) (W : World) => bears_any i k n W (by omega))
                    obtain ⟨N, hN⟩ : ∃ N, N = n1 + 40 := ⟨_, rfl⟩
                    have HN := hid hN
                    clear hN
                    go_wp2_with fail
                    go_loopw [29] (fun ix wr => ∃ k : Nat, k ≤ N ∧ ix = .int .i64 k ∧ Hid (EO WA wr f A1 A2 A3 q1 q2 q3 (L 0) b1 b2 b3 n1 n2 n3 3)) (fun ix _ => N - (intOf ix).toNat)
                    case atStart => exact ⟨0, Nat.zero_le _, by go_num, HE⟩
                    case round =>
                     clear HE
                     obtain ⟨k, hk, rfl, HE⟩ := hrel
                     obtain ⟨g, cap, hcn, hcm, hlook⟩ := HE.out.look1 hlt
                     rw [← HN.out] at hcn hlook
                     obtain ⟨s1, s2, -, -⟩ := hlook wr (Below.refl _ _)
                     by_cases hlk : k < N
                     ·have i2 : (k : Int) < (N : Int) := by omega
                      by_cases hkn : k < n1
                      ·obtain ⟨o, hA, -⟩ := (hlook wr (Below.refl _ _)).2.2.2 k hkn
                       have HC := hid (show ∀ W, Below wr.heap.size wr W → (W.cell? ⟨b1, i, none⟩ = some (.slice (some ⟨g, 0, none⟩) N cap) ∧ W.cell? ⟨g, k * 3, none⟩ = some (.int .i64 (10 + (i : Int))) ∧ W.cell? ⟨WA.heap.size, i * 5 + 2, none⟩ = some (.slice (some ⟨o, 0, none⟩) n1 (q1 i)) ∧ W.cell? ⟨o, k * 3, none⟩ = some (.int .i64 (10 + (i : Int)))) from fun W hb => by
                        obtain ⟨h1, h2, h3, h4⟩ := hlook W hb
                        have h5 := h3 k hlk
                        obtain ⟨o2, hA2, h6⟩ := h4 k hkn
                        rw [hA] at hA2
                        injection hA2 with hA2
                        injection hA2 with hA2
                        subst hA2
                        rw [brs_lt hkn, show ((10 + i : Nat) : Int) = 10 + (i : Int) from by omega] at h5
                        rw [hA] at h2
                        exact ⟨h1, h5, h2, h6⟩)
                       have hB : ∀ W, Calls Tryz.prog 13 #[.int .i64 i, .int .i64 k, .int .i64 n1] W fun e w' => e = .returned (.int .i64 (10 + (i : Int))) ∧ w' = W := fun W => by
                        have h := HB.out k n1 W
                        rw [if_pos hkn, show ((10 + i : Nat) : Int) = 10 + (i : Int) from by omega] at h
                        exact h
                       have hdk : decide ((k : Int) < (n1 : Int)) = true := by rw [decide_eq_true_eq]; omega
                       have hdk2 : decide (k < n1) = true := by rw [decide_eq_true_eq]; exact hkn
                       have HBB := hid hB
                       have HKK := hid (And.intro hk (And.intro hlk hkn))
                       clear hB hlook hA
                       as_aux_lemma =>
                        have hw10 := HW10.out
                        have i3 : k < 1000 := by have := HN.out; omega
                        go_upto_region 57 with fail
                        clear s1 s2
                        refine wp_region_held_drew (S := (fun wx => wx.cell? ⟨b1, i, none⟩ = some (.slice (some ⟨g, 0, none⟩) N cap) ∧ wx.cell? ⟨g, k * 3, none⟩ = some (.int .i64 (10 + (i : Int))) ∧ wx.cell? ⟨WA.heap.size, i * 5 + 2, none⟩ = some (.slice (some ⟨o, 0, none⟩) n1 (q1 i)) ∧ wx.cell? ⟨o, k * 3, none⟩ = some (.int .i64 (10 + (i : Int))))) (by kernel_rfl) (HC.out _ ((Below.refl _ _).drew)) (fun hH => ?_)
                        refine tk 0 ⟨some 207, .move (.tmp 28), 3, "outright.go:201", #[], none⟩ hH ?_; simp only [pua, puz, pus]
                        refine tk 1 ⟨some 208, .indexAddr 56 (.tmp 20) (.tmp 207), 0, "outright.go:201", #[⟨0, .data⟩], none⟩ hH ?_; simp only [pua, puz, pus]
                        refine tk 2 ⟨some 209, .load 35 (.tmp 208), 35, "outright.go:201", #[⟨1, .data⟩], none⟩ hH ?_; simp only [pua, puz, pus]
                        refine tk 3 ⟨some 210, .move (.tmp 29), 3, "outright.go:201", #[], none⟩ hH ?_; simp only [pua, puz, pus]
                        refine tk 4 ⟨some 211, .indexAddr 35 (.tmp 209) (.tmp 210), 0, "outright.go:201", #[⟨2, .data⟩, ⟨3, .data⟩], none⟩ hH ?_; simp only [pua, puz, pus]
                        refine tk 5 ⟨some 212, .fieldAddr 29 (.tmp 211) 0, 0, "outright.go:201", #[⟨4, .data⟩], none⟩ hH ?_; simp only [pua, puz, pus]
                        refine tk 6 ⟨some 213, .load 3 (.tmp 212), 3, "outright.go:201", #[⟨5, .data⟩], none⟩ hH ?_; simp only [pua, puz, pus]
                        refine tk 7 ⟨some 214, .move (.tmp 28), 3, "outright.go:201", #[], none⟩ hH ?_; simp only [pua, puz, pus]
                        refine tk 8 ⟨some 215, .move (.tmp 29), 3, "outright.go:201", #[], none⟩ hH ?_; simp only [pua, puz, pus]
                        refine tk 9 ⟨some 216, .move (.tmp 28), 3, "outright.go:201", #[], none⟩ hH ?_; simp only [pua, puz, pus]
                        refine tk 10 ⟨some 217, .indexAddr 51 (.tmp 13) (.tmp 216), 0, "outright.go:201", #[⟨9, .data⟩], none⟩ hH ?_; simp only [pua, puz, pus]
                        refine tk 11 ⟨some 218, .fieldAddr 40 (.tmp 217) 0, 0, "outright.go:201", #[⟨10, .data⟩], none⟩ hH ?_; simp only [pua, puz, pus]
                        refine tk 12 ⟨some 219, .fieldAddr 37 (.tmp 218) 2, 0, "outright.go:201", #[⟨11, .data⟩], none⟩ hH ?_; simp only [pua, puz, pus]
                        refine tk 13 ⟨some 220, .load 35 (.tmp 219), 35, "outright.go:201", #[⟨12, .data⟩], none⟩ hH ?_; simp only [pua, puz, pus]
                        refine tk 14 ⟨some 221, .call { callee := .builtin .len, args := #[.tmp 220], argTypes := #[35] }, 3, "outright.go:201", #[⟨13, .data⟩], none⟩ hH ?_; simp only [pua, puz, pus]
                        refine rd 15 ⟨some 222, .call { callee := .value (.func 13), args := #[.tmp 214, .tmp 215, .tmp 221], argTypes := #[3, 3, 3] }, 3, "outright.go:201", #[⟨7, .data⟩, ⟨8, .data⟩, ⟨14, .data⟩], none⟩ (fun K hK => ?_); go_simp
                        go_at_call 13
                        refine (HBB.out _).mono ?_
                        rintro e w2 ⟨rfl, e2⟩
                        rw [e2]
                        clear e2 w2
                        clear hH; refine hK.out _ _ (HC.out _ ((Below.refl _ _).drew)) (fun hH => ?_)
                        clear hK K; (try simp only [pua, puz, pus])
                        refine tk 16 ⟨some 223, .binOp .neq 3 (.tmp 213) (.tmp 222) 3, 4, "outright.go:201", #[⟨6, .data⟩, ⟨15, .data⟩], none⟩ hH ?_; simp only [pua, puz, pus]
                        refine tk 17 ⟨some 224, .move (.tmp 223), 4, "outright.go:201", #[⟨16, .data⟩, ⟨15, .chain⟩], none⟩ hH ?_; simp only [pua, puz, pus]
                        refine tk 18 ⟨some 225, .move (.tmp 29), 3, "outright.go:201", #[⟨17, .guard⟩], some (17, false)⟩ hH ?_; simp only [pua, puz, pus]
                        refine tk 19 ⟨some 226, .move (.tmp 28), 3, "outright.go:201", #[⟨17, .guard⟩], some (17, false)⟩ hH ?_; simp only [pua, puz, pus]
                        refine tk 20 ⟨some 227, .indexAddr 51 (.tmp 13) (.tmp 226), 0, "outright.go:201", #[⟨19, .data⟩, ⟨17, .guard⟩], some (17, false)⟩ hH ?_; simp only [pua, puz, pus]
                        refine tk 21 ⟨some 228, .fieldAddr 40 (.tmp 227) 0, 0, "outright.go:201", #[⟨20, .data⟩, ⟨17, .guard⟩], some (17, false)⟩ hH ?_; simp only [pua, puz, pus]
                        refine tk 22 ⟨some 229, .fieldAddr 37 (.tmp 228) 2, 0, "outright.go:201", #[⟨21, .data⟩, ⟨17, .guard⟩], some (17, false)⟩ hH ?_; simp only [pua, puz, pus]
                        refine tk 23 ⟨some 230, .load 35 (.tmp 229), 35, "outright.go:201", #[⟨22, .data⟩, ⟨17, .guard⟩], some (17, false)⟩ hH ?_; simp only [pua, puz, pus]
                        refine tk 24 ⟨some 231, .call { callee := .builtin .len, args := #[.tmp 230], argTypes := #[35] }, 3, "outright.go:201", #[⟨23, .data⟩, ⟨17, .guard⟩], some (17, false)⟩ hH ?_; simp only [pua, puz, pus]
                        refine tk 25 ⟨some 232, .binOp .lss 3 (.tmp 225) (.tmp 231) 3, 4, "outright.go:201", #[⟨18, .data⟩, ⟨24, .data⟩, ⟨17, .guard⟩], some (17, false)⟩ hH ?_; simp only [pua, puz, pus]
                        refine tk 26 ⟨some 233, .move (.tmp 232), 4, "outright.go:201", #[⟨25, .data⟩, ⟨17, .chain⟩, ⟨17, .guard⟩], some (17, false)⟩ hH ?_; simp only [pua, puz, pus]
                        refine tk 27 ⟨some 234, .move (.tmp 28), 3, "outright.go:201", #[⟨26, .guard⟩], some (26, true)⟩ hH ?_; simp only [pua, puz, pus]
                        refine tk 28 ⟨some 235, .indexAddr 51 (.tmp 13) (.tmp 234), 0, "outright.go:201", #[⟨27, .data⟩, ⟨26, .guard⟩], some (26, true)⟩ hH ?_; simp only [pua, puz, pus]
                        refine tk 29 ⟨some 236, .fieldAddr 40 (.tmp 235) 0, 0, "outright.go:201", #[⟨28, .data⟩, ⟨26, .guard⟩], some (26, true)⟩ hH ?_; simp only [pua, puz, pus]
                        refine tk 30 ⟨some 237, .fieldAddr 37 (.tmp 236) 2, 0, "outright.go:201", #[⟨29, .data⟩, ⟨26, .guard⟩], some (26, true)⟩ hH ?_; simp only [pua, puz, pus]
                        refine tk 31 ⟨some 238, .load 35 (.tmp 237), 35, "outright.go:201", #[⟨30, .data⟩, ⟨26, .guard⟩], some (26, true)⟩ hH ?_; simp only [pua, puz, pus]
                        refine tk 32 ⟨some 239, .move (.tmp 29), 3, "outright.go:201", #[⟨26, .guard⟩], some (26, true)⟩ hH ?_; simp only [pua, puz, pus]
                        refine tk 33 ⟨some 240, .indexAddr 35 (.tmp 238) (.tmp 239), 0, "outright.go:201", #[⟨31, .data⟩, ⟨32, .data⟩, ⟨26, .guard⟩], some (26, true)⟩ hH ?_; simp only [pua, puz, pus]
                        refine tk 34 ⟨some 241, .fieldAddr 29 (.tmp 240) 0, 0, "outright.go:201", #[⟨33, .data⟩, ⟨26, .guard⟩], some (26, true)⟩ hH ?_; simp only [pua, puz, pus]
                        refine tk 35 ⟨some 242, .load 3 (.tmp 241), 3, "outright.go:201", #[⟨34, .data⟩, ⟨26, .guard⟩], some (26, true)⟩ hH ?_; simp only [pua, puz, pus]
                        refine tk 36 ⟨some 243, .move (.tmp 28), 3, "outright.go:201", #[⟨26, .guard⟩], some (26, true)⟩ hH ?_; simp only [pua, puz, pus]
                        refine tk 37 ⟨some 244, .binOp .add 3 (.const (.int .i64 10)) (.tmp 243) 3, 3, "outright.go:201", #[⟨36, .data⟩, ⟨26, .guard⟩], some (26, true)⟩ hH ?_; simp only [pua, puz, pus]
                        refine tk 38 ⟨some 245, .binOp .neq 3 (.tmp 242) (.tmp 244) 3, 4, "outright.go:201", #[⟨35, .data⟩, ⟨37, .data⟩, ⟨26, .guard⟩], some (26, true)⟩ hH ?_; simp only [pua, puz, pus]
                        refine tk 39 ⟨some 246, .pick (.tmp 233) (.tmp 245) (.const (.bool false)), 4, "outright.go:201", #[⟨26, .data⟩, ⟨38, .data⟩, ⟨17, .guard⟩], some (17, false)⟩ hH ?_; simp only [pua, puz, pus]
                        refine tk 40 ⟨some 247, .pick (.tmp 224) (.const (.bool true)) (.tmp 246), 4, "outright.go:201", #[⟨17, .data⟩, ⟨39, .data⟩], none⟩ hH ?_; simp only [pua, puz, pus]
                        refine wpAnyH_done (by kernel_rfl) ?_ _
                        clear hH
                        go_wp2_with fail
                        go_roundw
                        case rel => exact ⟨k + 1, by have := HKK.out.2.1; omega, by go_num, hid (HE.out.below (((Below.refl _ _).drew)))⟩
                        case measure => have := HKK.out.2.1; simp [intOf]; omega
                      ·have HC := hid (show ∀ W, Below wr.heap.size wr W → (W.cell? ⟨b1, i, none⟩ = some (.slice (some ⟨g, 0, none⟩) N cap) ∧ W.cell? ⟨g, k * 3, none⟩ = some (.int .i64 (100 + (i : Int))) ∧ W.cell? ⟨WA.heap.size, i * 5 + 2, none⟩ = some (.slice (A1 i) n1 (q1 i))) from fun W hb => by
                        obtain ⟨h1, h2, h3, h4⟩ := hlook W hb
                        have h5 := h3 k hlk
                        rw [brs_ge (by omega), show ((100 + i : Nat) : Int) = 100 + (i : Int) from by omega] at h5
                        exact ⟨h1, h5, h2⟩)
                       have hB : ∀ W, Calls Tryz.prog 13 #[.int .i64 i, .int .i64 k, .int .i64 n1] W fun e w' => e = .returned (.int .i64 (100 + (i : Int))) ∧ w' = W := fun W => by
                        have h := HB.out k n1 W
                        rw [if_neg hkn, show ((100 + i : Nat) : Int) = 100 + (i : Int) from by omega] at h
                        exact h
                       have hdk : decide ((k : Int) < (n1 : Int)) = false := by rw [decide_eq_false_iff_not]; omega
                       have hdk2 : decide (k < n1) = false := by rw [decide_eq_false_iff_not]; exact hkn
                       have HBB := hid hB
                       have HKK := hid (And.intro hk (And.intro hlk hkn))
                       clear hB hlook
                       as_aux_lemma =>
                        have hw10 := HW10.out
                        have i3 : k < 1000 := by have := HN.out; omega
                        go_upto_region 57 with fail
                        clear s1 s2
                        refine wp_region_held_drew (S := (fun wx => wx.cell? ⟨b1, i, none⟩ = some (.slice (some ⟨g, 0, none⟩) N cap) ∧ wx.cell? ⟨g, k * 3, none⟩ = some (.int .i64 (100 + (i : Int))) ∧ wx.cell? ⟨WA.heap.size, i * 5 + 2, none⟩ = some (.slice (A1 i) n1 (q1 i)))) (by kernel_rfl) (HC.out _ ((Below.refl _ _).drew)) (fun hH => ?_)
                        refine tk 0 ⟨some 207, .move (.tmp 28), 3, "outright.go:201", #[], none⟩ hH ?_; simp only [pua, puz, pus]
                        refine tk 1 ⟨some 208, .indexAddr 56 (.tmp 20) (.tmp 207), 0, "outright.go:201", #[⟨0, .data⟩], none⟩ hH ?_; simp only [pua, puz, pus]
                        refine tk 2 ⟨some 209, .load 35 (.tmp 208), 35, "outright.go:201", #[⟨1, .data⟩], none⟩ hH ?_; simp only [pua, puz, pus]
                        refine tk 3 ⟨some 210, .move (.tmp 29), 3, "outright.go:201", #[], none⟩ hH ?_; simp only [pua, puz, pus]
                        refine tk 4 ⟨some 211, .indexAddr 35 (.tmp 209) (.tmp 210), 0, "outright.go:201", #[⟨2, .data⟩, ⟨3, .data⟩], none⟩ hH ?_; simp only [pua, puz, pus]
                        refine tk 5 ⟨some 212, .fieldAddr 29 (.tmp 211) 0, 0, "outright.go:201", #[⟨4, .data⟩], none⟩ hH ?_; simp only [pua, puz, pus]
                        refine tk 6 ⟨some 213, .load 3 (.tmp 212), 3, "outright.go:201", #[⟨5, .data⟩], none⟩ hH ?_; simp only [pua, puz, pus]
                        refine tk 7 ⟨some 214, .move (.tmp 28), 3, "outright.go:201", #[], none⟩ hH ?_; simp only [pua, puz, pus]
                        refine tk 8 ⟨some 215, .move (.tmp 29), 3, "outright.go:201", #[], none⟩ hH ?_; simp only [pua, puz, pus]
                        refine tk 9 ⟨some 216, .move (.tmp 28), 3, "outright.go:201", #[], none⟩ hH ?_; simp only [pua, puz, pus]
                        refine tk 10 ⟨some 217, .indexAddr 51 (.tmp 13) (.tmp 216), 0, "outright.go:201", #[⟨9, .data⟩], none⟩ hH ?_; simp only [pua, puz, pus]
                        refine tk 11 ⟨some 218, .fieldAddr 40 (.tmp 217) 0, 0, "outright.go:201", #[⟨10, .data⟩], none⟩ hH ?_; simp only [pua, puz, pus]
                        refine tk 12 ⟨some 219, .fieldAddr 37 (.tmp 218) 2, 0, "outright.go:201", #[⟨11, .data⟩], none⟩ hH ?_; simp only [pua, puz, pus]
                        refine tk 13 ⟨some 220, .load 35 (.tmp 219), 35, "outright.go:201", #[⟨12, .data⟩], none⟩ hH ?_; simp only [pua, puz, pus]
                        refine tk 14 ⟨some 221, .call { callee := .builtin .len, args := #[.tmp 220], argTypes := #[35] }, 3, "outright.go:201", #[⟨13, .data⟩], none⟩ hH ?_; simp only [pua, puz, pus]
                        refine rd 15 ⟨some 222, .call { callee := .value (.func 13), args := #[.tmp 214, .tmp 215, .tmp 221], argTypes := #[3, 3, 3] }, 3, "outright.go:201", #[⟨7, .data⟩, ⟨8, .data⟩, ⟨14, .data⟩], none⟩ (fun K hK => ?_); go_simp
                        go_at_call 13
                        refine (HBB.out _).mono ?_
                        rintro e w2 ⟨rfl, e2⟩
                        rw [e2]
                        clear e2 w2
                        clear hH; refine hK.out _ _ (HC.out _ ((Below.refl _ _).drew)) (fun hH => ?_)
                        clear hK K; (try simp only [pua, puz, pus])
                        refine tk 16 ⟨some 223, .binOp .neq 3 (.tmp 213) (.tmp 222) 3, 4, "outright.go:201", #[⟨6, .data⟩, ⟨15, .data⟩], none⟩ hH ?_; simp only [pua, puz, pus]
                        refine tk 17 ⟨some 224, .move (.tmp 223), 4, "outright.go:201", #[⟨16, .data⟩, ⟨15, .chain⟩], none⟩ hH ?_; simp only [pua, puz, pus]
                        refine tk 18 ⟨some 225, .move (.tmp 29), 3, "outright.go:201", #[⟨17, .guard⟩], some (17, false)⟩ hH ?_; simp only [pua, puz, pus]
                        refine tk 19 ⟨some 226, .move (.tmp 28), 3, "outright.go:201", #[⟨17, .guard⟩], some (17, false)⟩ hH ?_; simp only [pua, puz, pus]
                        refine tk 20 ⟨some 227, .indexAddr 51 (.tmp 13) (.tmp 226), 0, "outright.go:201", #[⟨19, .data⟩, ⟨17, .guard⟩], some (17, false)⟩ hH ?_; simp only [pua, puz, pus]
                        refine tk 21 ⟨some 228, .fieldAddr 40 (.tmp 227) 0, 0, "outright.go:201", #[⟨20, .data⟩, ⟨17, .guard⟩], some (17, false)⟩ hH ?_; simp only [pua, puz, pus]
                        refine tk 22 ⟨some 229, .fieldAddr 37 (.tmp 228) 2, 0, "outright.go:201", #[⟨21, .data⟩, ⟨17, .guard⟩], some (17, false)⟩ hH ?_; simp only [pua, puz, pus]
                        refine tk 23 ⟨some 230, .load 35 (.tmp 229), 35, "outright.go:201", #[⟨22, .data⟩, ⟨17, .guard⟩], some (17, false)⟩ hH ?_; simp only [pua, puz, pus]
                        refine tk 24 ⟨some 231, .call { callee := .builtin .len, args := #[.tmp 230], argTypes := #[35] }, 3, "outright.go:201", #[⟨23, .data⟩, ⟨17, .guard⟩], some (17, false)⟩ hH ?_; simp only [pua, puz, pus]
                        refine tk 25 ⟨some 232, .binOp .lss 3 (.tmp 225) (.tmp 231) 3, 4, "outright.go:201", #[⟨18, .data⟩, ⟨24, .data⟩, ⟨17, .guard⟩], some (17, false)⟩ hH ?_; simp only [pua, puz, pus]
                        refine tk 26 ⟨some 233, .move (.tmp 232), 4, "outright.go:201", #[⟨25, .data⟩, ⟨17, .chain⟩, ⟨17, .guard⟩], some (17, false)⟩ hH ?_; simp only [pua, puz, pus]
                        refine tks 27 ⟨some 234, .move (.tmp 28), 3, "outright.go:201", #[⟨26, .guard⟩], some (26, true)⟩ hH ?_; simp only [pua, puz, pus]
                        refine tks 28 ⟨some 235, .indexAddr 51 (.tmp 13) (.tmp 234), 0, "outright.go:201", #[⟨27, .data⟩, ⟨26, .guard⟩], some (26, true)⟩ hH ?_; simp only [pua, puz, pus]
                        refine tks 29 ⟨some 236, .fieldAddr 40 (.tmp 235) 0, 0, "outright.go:201", #[⟨28, .data⟩, ⟨26, .guard⟩], some (26, true)⟩ hH ?_; simp only [pua, puz, pus]
                        refine tks 30 ⟨some 237, .fieldAddr 37 (.tmp 236) 2, 0, "outright.go:201", #[⟨29, .data⟩, ⟨26, .guard⟩], some (26, true)⟩ hH ?_; simp only [pua, puz, pus]
                        refine tks 31 ⟨some 238, .load 35 (.tmp 237), 35, "outright.go:201", #[⟨30, .data⟩, ⟨26, .guard⟩], some (26, true)⟩ hH ?_; simp only [pua, puz, pus]
                        refine tks 32 ⟨some 239, .move (.tmp 29), 3, "outright.go:201", #[⟨26, .guard⟩], some (26, true)⟩ hH ?_; simp only [pua, puz, pus]
                        refine tks 33 ⟨some 240, .indexAddr 35 (.tmp 238) (.tmp 239), 0, "outright.go:201", #[⟨31, .data⟩, ⟨32, .data⟩, ⟨26, .guard⟩], some (26, true)⟩ hH ?_; simp only [pua, puz, pus]
                        refine tks 34 ⟨some 241, .fieldAddr 29 (.tmp 240) 0, 0, "outright.go:201", #[⟨33, .data⟩, ⟨26, .guard⟩], some (26, true)⟩ hH ?_; simp only [pua, puz, pus]
                        refine tks 35 ⟨some 242, .load 3 (.tmp 241), 3, "outright.go:201", #[⟨34, .data⟩, ⟨26, .guard⟩], some (26, true)⟩ hH ?_; simp only [pua, puz, pus]
                        refine tks 36 ⟨some 243, .move (.tmp 28), 3, "outright.go:201", #[⟨26, .guard⟩], some (26, true)⟩ hH ?_; simp only [pua, puz, pus]
                        refine tks 37 ⟨some 244, .binOp .add 3 (.const (.int .i64 10)) (.tmp 243) 3, 3, "outright.go:201", #[⟨36, .data⟩, ⟨26, .guard⟩], some (26, true)⟩ hH ?_; simp only [pua, puz, pus]
                        refine tks 38 ⟨some 245, .binOp .neq 3 (.tmp 242) (.tmp 244) 3, 4, "outright.go:201", #[⟨35, .data⟩, ⟨37, .data⟩, ⟨26, .guard⟩], some (26, true)⟩ hH ?_; simp only [pua, puz, pus]
                        refine tk 39 ⟨some 246, .pick (.tmp 233) (.tmp 245) (.const (.bool false)), 4, "outright.go:201", #[⟨26, .data⟩, ⟨38, .data⟩, ⟨17, .guard⟩], some (17, false)⟩ hH ?_; simp only [pua, puz, pus]
                        refine tk 40 ⟨some 247, .pick (.tmp 224) (.const (.bool true)) (.tmp 246), 4, "outright.go:201", #[⟨17, .data⟩, ⟨39, .data⟩], none⟩ hH ?_; simp only [pua, puz, pus]
                        refine wpAnyH_done (by kernel_rfl) ?_ _
                        clear hH
                        go_wp2_with fail
                        go_roundw
                        case rel => exact ⟨k + 1, by have := HKK.out.2.1; omega, by go_num, hid (HE.out.below (((Below.refl _ _).drew)))⟩
                        case measure => have := HKK.out.2.1; simp [intOf]; omega
                     ·obtain rfl : N = k := by omega
                      clear hk hlk hlook HN
                      as_aux_lemma =>
                       obtain ⟨N, hN⟩ : ∃ N, N = n2 + 40 := ⟨_, rfl⟩
                       have HN := hid hN
                       clear hN
                       go_wp2_with fail
                       go_loopw [30] (fun ix wr => ∃ k : Nat, k ≤ N ∧ ix = .int .i64 k ∧ Hid (EO WA wr f A1 A2 A3 q1 q2 q3 (L 0) b1 b2 b3 n1 n2 n3 3)) (fun ix _ => N - (intOf ix).toNat)
                       case atStart => exact ⟨0, Nat.zero_le _, by go_num, HE⟩
                       case round =>
                        clear HE
                        obtain ⟨k, hk, rfl, HE⟩ := hrel
                        obtain ⟨g, cap, hcn, hcm, hlook⟩ := HE.out.look2 hlt
                        rw [← HN.out] at hcn hlook
                        obtain ⟨s1, s2, -, -⟩ := hlook wr (Below.refl _ _)
                        by_cases hlk : k < N
                        ·have i2 : (k : Int) < (N : Int) := by omega
                         by_cases hkn : k < n2
                         ·obtain ⟨o, hA, -⟩ := (hlook wr (Below.refl _ _)).2.2.2 k hkn
                          have HC := hid (show ∀ W, Below wr.heap.size wr W → (W.cell? ⟨b2, i, none⟩ = some (.slice (some ⟨g, 0, none⟩) N cap) ∧ W.cell? ⟨g, k * 4 + 1, none⟩ = some (.int .i64 (10 + (i : Int))) ∧ W.cell? ⟨WA.heap.size, i * 5 + 3, none⟩ = some (.slice (some ⟨o, 0, none⟩) n2 (q2 i)) ∧ W.cell? ⟨o, k * 4 + 1, none⟩ = some (.int .i64 (10 + (i : Int)))) from fun W hb => by
                           obtain ⟨h1, h2, h3, h4⟩ := hlook W hb
                           have h5 := h3 k hlk
                           obtain ⟨o2, hA2, h6⟩ := h4 k hkn
                           rw [hA] at hA2
                           injection hA2 with hA2
                           injection hA2 with hA2
                           subst hA2
                           rw [brs_lt hkn, show ((10 + i : Nat) : Int) = 10 + (i : Int) from by omega] at h5
                           rw [hA] at h2
                           exact ⟨h1, h5, h2, h6⟩)
                          have hB : ∀ W, Calls Tryz.prog 13 #[.int .i64 i, .int .i64 k, .int .i64 n2] W fun e w' => e = .returned (.int .i64 (10 + (i : Int))) ∧ w' = W := fun W => by
                           have h := HB.out k n2 W
                           rw [if_pos hkn, show ((10 + i : Nat) : Int) = 10 + (i : Int) from by omega] at h
                           exact h
                          have hdk : decide ((k : Int) < (n2 : Int)) = true := by rw [decide_eq_true_eq]; omega
                          have hdk2 : decide (k < n2) = true := by rw [decide_eq_true_eq]; exact hkn
                          have HBB := hid hB
                          have HKK := hid (And.intro hk (And.intro hlk hkn))
                          clear hB hlook hA
                          as_aux_lemma =>
                           have hw10 := HW10.out
                           have i3 : k < 1000 := by have := HN.out; omega
                           go_upto_region 62 with fail
                           clear s1 s2
                           refine wp_region_held_drew (S := (fun wx => wx.cell? ⟨b2, i, none⟩ = some (.slice (some ⟨g, 0, none⟩) N cap) ∧ wx.cell? ⟨g, k * 4 + 1, none⟩ = some (.int .i64 (10 + (i : Int))) ∧ wx.cell? ⟨WA.heap.size, i * 5 + 3, none⟩ = some (.slice (some ⟨o, 0, none⟩) n2 (q2 i)) ∧ wx.cell? ⟨o, k * 4 + 1, none⟩ = some (.int .i64 (10 + (i : Int))))) (by kernel_rfl) (HC.out _ ((Below.refl _ _).drew)) (fun hH => ?_)
                           refine tk 0 ⟨some 256, .move (.tmp 28), 3, "outright.go:206", #[], none⟩ hH ?_; simp only [pua, puz, pus]
                           refine tk 1 ⟨some 257, .indexAddr 57 (.tmp 21) (.tmp 256), 0, "outright.go:206", #[⟨0, .data⟩], none⟩ hH ?_; simp only [pua, puz, pus]
                           refine tk 2 ⟨some 258, .load 22 (.tmp 257), 22, "outright.go:206", #[⟨1, .data⟩], none⟩ hH ?_; simp only [pua, puz, pus]
                           refine tk 3 ⟨some 259, .move (.tmp 30), 3, "outright.go:206", #[], none⟩ hH ?_; simp only [pua, puz, pus]
                           refine tk 4 ⟨some 260, .indexAddr 22 (.tmp 258) (.tmp 259), 0, "outright.go:206", #[⟨2, .data⟩, ⟨3, .data⟩], none⟩ hH ?_; simp only [pua, puz, pus]
                           refine tk 5 ⟨some 261, .fieldAddr 45 (.tmp 260) 1, 0, "outright.go:206", #[⟨4, .data⟩], none⟩ hH ?_; simp only [pua, puz, pus]
                           refine tk 6 ⟨some 262, .fieldAddr 29 (.tmp 261) 0, 0, "outright.go:206", #[⟨5, .data⟩], none⟩ hH ?_; simp only [pua, puz, pus]
                           refine tk 7 ⟨some 263, .load 3 (.tmp 262), 3, "outright.go:206", #[⟨6, .data⟩], none⟩ hH ?_; simp only [pua, puz, pus]
                           refine tk 8 ⟨some 264, .move (.tmp 28), 3, "outright.go:206", #[], none⟩ hH ?_; simp only [pua, puz, pus]
                           refine tk 9 ⟨some 265, .move (.tmp 30), 3, "outright.go:206", #[], none⟩ hH ?_; simp only [pua, puz, pus]
                           refine tk 10 ⟨some 266, .move (.tmp 28), 3, "outright.go:206", #[], none⟩ hH ?_; simp only [pua, puz, pus]
                           refine tk 11 ⟨some 267, .indexAddr 51 (.tmp 13) (.tmp 266), 0, "outright.go:206", #[⟨10, .data⟩], none⟩ hH ?_; simp only [pua, puz, pus]
                           refine tk 12 ⟨some 268, .fieldAddr 40 (.tmp 267) 1, 0, "outright.go:206", #[⟨11, .data⟩], none⟩ hH ?_; simp only [pua, puz, pus]
                           refine tk 13 ⟨some 269, .load 22 (.tmp 268), 22, "outright.go:206", #[⟨12, .data⟩], none⟩ hH ?_; simp only [pua, puz, pus]
                           refine tk 14 ⟨some 270, .call { callee := .builtin .len, args := #[.tmp 269], argTypes := #[22] }, 3, "outright.go:206", #[⟨13, .data⟩], none⟩ hH ?_; simp only [pua, puz, pus]
                           refine rd 15 ⟨some 271, .call { callee := .value (.func 13), args := #[.tmp 264, .tmp 265, .tmp 270], argTypes := #[3, 3, 3] }, 3, "outright.go:206", #[⟨8, .data⟩, ⟨9, .data⟩, ⟨14, .data⟩], none⟩ (fun K hK => ?_); go_simp
                           go_at_call 13
                           refine (HBB.out _).mono ?_
                           rintro e w2 ⟨rfl, e2⟩
                           rw [e2]
                           clear e2 w2
                           clear hH; refine hK.out _ _ (HC.out _ ((Below.refl _ _).drew)) (fun hH => ?_)
                           clear hK K; (try simp only [pua, puz, pus])
                           refine tk 16 ⟨some 272, .binOp .neq 3 (.tmp 263) (.tmp 271) 3, 4, "outright.go:206", #[⟨7, .data⟩, ⟨15, .data⟩], none⟩ hH ?_; simp only [pua, puz, pus]
                           refine tk 17 ⟨some 273, .move (.tmp 272), 4, "outright.go:206", #[⟨16, .data⟩, ⟨15, .chain⟩], none⟩ hH ?_; simp only [pua, puz, pus]
                           refine tk 18 ⟨some 274, .move (.tmp 30), 3, "outright.go:206", #[⟨17, .guard⟩], some (17, false)⟩ hH ?_; simp only [pua, puz, pus]
                           refine tk 19 ⟨some 275, .move (.tmp 28), 3, "outright.go:206", #[⟨17, .guard⟩], some (17, false)⟩ hH ?_; simp only [pua, puz, pus]
                           refine tk 20 ⟨some 276, .indexAddr 51 (.tmp 13) (.tmp 275), 0, "outright.go:206", #[⟨19, .data⟩, ⟨17, .guard⟩], some (17, false)⟩ hH ?_; simp only [pua, puz, pus]
                           refine tk 21 ⟨some 277, .fieldAddr 40 (.tmp 276) 1, 0, "outright.go:206", #[⟨20, .data⟩, ⟨17, .guard⟩], some (17, false)⟩ hH ?_; simp only [pua, puz, pus]
                           refine tk 22 ⟨some 278, .load 22 (.tmp 277), 22, "outright.go:206", #[⟨21, .data⟩, ⟨17, .guard⟩], some (17, false)⟩ hH ?_; simp only [pua, puz, pus]
                           refine tk 23 ⟨some 279, .call { callee := .builtin .len, args := #[.tmp 278], argTypes := #[22] }, 3, "outright.go:206", #[⟨22, .data⟩, ⟨17, .guard⟩], some (17, false)⟩ hH ?_; simp only [pua, puz, pus]
                           refine tk 24 ⟨some 280, .binOp .lss 3 (.tmp 274) (.tmp 279) 3, 4, "outright.go:206", #[⟨18, .data⟩, ⟨23, .data⟩, ⟨17, .guard⟩], some (17, false)⟩ hH ?_; simp only [pua, puz, pus]
                           refine tk 25 ⟨some 281, .move (.tmp 280), 4, "outright.go:206", #[⟨24, .data⟩, ⟨17, .chain⟩, ⟨17, .guard⟩], some (17, false)⟩ hH ?_; simp only [pua, puz, pus]
                           refine tk 26 ⟨some 282, .move (.tmp 28), 3, "outright.go:206", #[⟨25, .guard⟩], some (25, true)⟩ hH ?_; simp only [pua, puz, pus]
                           refine tk 27 ⟨some 283, .indexAddr 51 (.tmp 13) (.tmp 282), 0, "outright.go:206", #[⟨26, .data⟩, ⟨25, .guard⟩], some (25, true)⟩ hH ?_; simp only [pua, puz, pus]
                           refine tk 28 ⟨some 284, .fieldAddr 40 (.tmp 283) 1, 0, "outright.go:206", #[⟨27, .data⟩, ⟨25, .guard⟩], some (25, true)⟩ hH ?_; simp only [pua, puz, pus]
                           refine tk 29 ⟨some 285, .load 22 (.tmp 284), 22, "outright.go:206", #[⟨28, .data⟩, ⟨25, .guard⟩], some (25, true)⟩ hH ?_; simp only [pua, puz, pus]
                           refine tk 30 ⟨some 286, .move (.tmp 30), 3, "outright.go:206", #[⟨25, .guard⟩], some (25, true)⟩ hH ?_; simp only [pua, puz, pus]
                           refine tk 31 ⟨some 287, .indexAddr 22 (.tmp 285) (.tmp 286), 0, "outright.go:206", #[⟨29, .data⟩, ⟨30, .data⟩, ⟨25, .guard⟩], some (25, true)⟩ hH ?_; simp only [pua, puz, pus]
                           refine tk 32 ⟨some 288, .fieldAddr 45 (.tmp 287) 1, 0, "outright.go:206", #[⟨31, .data⟩, ⟨25, .guard⟩], some (25, true)⟩ hH ?_; simp only [pua, puz, pus]
                           refine tk 33 ⟨some 289, .fieldAddr 29 (.tmp 288) 0, 0, "outright.go:206", #[⟨32, .data⟩, ⟨25, .guard⟩], some (25, true)⟩ hH ?_; simp only [pua, puz, pus]
                           refine tk 34 ⟨some 290, .load 3 (.tmp 289), 3, "outright.go:206", #[⟨33, .data⟩, ⟨25, .guard⟩], some (25, true)⟩ hH ?_; simp only [pua, puz, pus]
                           refine tk 35 ⟨some 291, .move (.tmp 28), 3, "outright.go:206", #[⟨25, .guard⟩], some (25, true)⟩ hH ?_; simp only [pua, puz, pus]
                           refine tk 36 ⟨some 292, .binOp .add 3 (.const (.int .i64 10)) (.tmp 291) 3, 3, "outright.go:206", #[⟨35, .data⟩, ⟨25, .guard⟩], some (25, true)⟩ hH ?_; simp only [pua, puz, pus]
                           refine tk 37 ⟨some 293, .binOp .neq 3 (.tmp 290) (.tmp 292) 3, 4, "outright.go:206", #[⟨34, .data⟩, ⟨36, .data⟩, ⟨25, .guard⟩], some (25, true)⟩ hH ?_; simp only [pua, puz, pus]
                           refine tk 38 ⟨some 294, .pick (.tmp 281) (.tmp 293) (.const (.bool false)), 4, "outright.go:206", #[⟨25, .data⟩, ⟨37, .data⟩, ⟨17, .guard⟩], some (17, false)⟩ hH ?_; simp only [pua, puz, pus]
                           refine tk 39 ⟨some 295, .pick (.tmp 273) (.const (.bool true)) (.tmp 294), 4, "outright.go:206", #[⟨17, .data⟩, ⟨38, .data⟩], none⟩ hH ?_; simp only [pua, puz, pus]
                           refine wpAnyH_done (by kernel_rfl) ?_ _
                           clear hH
                           go_wp2_with fail
                           go_roundw
                           case rel => exact ⟨k + 1, by have := HKK.out.2.1; omega, by go_num, hid (HE.out.below (((Below.refl _ _).drew)))⟩
                           case measure => have := HKK.out.2.1; simp [intOf]; omega
                         ·have HC := hid (show ∀ W, Below wr.heap.size wr W → (W.cell? ⟨b2, i, none⟩ = some (.slice (some ⟨g, 0, none⟩) N cap) ∧ W.cell? ⟨g, k * 4 + 1, none⟩ = some (.int .i64 (100 + (i : Int))) ∧ W.cell? ⟨WA.heap.size, i * 5 + 3, none⟩ = some (.slice (A2 i) n2 (q2 i))) from fun W hb => by
                           obtain ⟨h1, h2, h3, h4⟩ := hlook W hb
                           have h5 := h3 k hlk
                           rw [brs_ge (by omega), show ((100 + i : Nat) : Int) = 100 + (i : Int) from by omega] at h5
                           exact ⟨h1, h5, h2⟩)
                          have hB : ∀ W, Calls Tryz.prog 13 #[.int .i64 i, .int .i64 k, .int .i64 n2] W fun e w' => e = .returned (.int .i64 (100 + (i : Int))) ∧ w' = W := fun W => by
                           have h := HB.out k n2 W
                           rw [if_neg hkn, show ((100 + i : Nat) : Int) = 100 + (i : Int) from by omega] at h
                           exact h
                          have hdk : decide ((k : Int) < (n2 : Int)) = false := by rw [decide_eq_false_iff_not]; omega
                          have hdk2 : decide (k < n2) = false := by rw [decide_eq_false_iff_not]; exact hkn
                          have HBB := hid hB
                          have HKK := hid (And.intro hk (And.intro hlk hkn))
                          clear hB hlook
                          as_aux_lemma =>
                           have hw10 := HW10.out
                           have i3 : k < 1000 := by have := HN.out; omega
                           go_upto_region 62 with fail
                           clear s1 s2
                           refine wp_region_held_drew (S := (fun wx => wx.cell? ⟨b2, i, none⟩ = some (.slice (some ⟨g, 0, none⟩) N cap) ∧ wx.cell? ⟨g, k * 4 + 1, none⟩ = some (.int .i64 (100 + (i : Int))) ∧ wx.cell? ⟨WA.heap.size, i * 5 + 3, none⟩ = some (.slice (A2 i) n2 (q2 i)))) (by kernel_rfl) (HC.out _ ((Below.refl _ _).drew)) (fun hH => ?_)
                           refine tk 0 ⟨some 256, .move (.tmp 28), 3, "outright.go:206", #[], none⟩ hH ?_; simp only [pua, puz, pus]
                           refine tk 1 ⟨some 257, .indexAddr 57 (.tmp 21) (.tmp 256), 0, "outright.go:206", #[⟨0, .data⟩], none⟩ hH ?_; simp only [pua, puz, pus]
                           refine tk 2 ⟨some 258, .load 22 (.tmp 257), 22, "outright.go:206", #[⟨1, .data⟩], none⟩ hH ?_; simp only [pua, puz, pus]
                           refine tk 3 ⟨some 259, .move (.tmp 30), 3, "outright.go:206", #[], none⟩ hH ?_; simp only [pua, puz, pus]
                           refine tk 4 ⟨some 260, .indexAddr 22 (.tmp 258) (.tmp 259), 0, "outright.go:206", #[⟨2, .data⟩, ⟨3, .data⟩], none⟩ hH ?_; simp only [pua, puz, pus]
                           refine tk 5 ⟨some 261, .fieldAddr 45 (.tmp 260) 1, 0, "outright.go:206", #[⟨4, .data⟩], none⟩ hH ?_; simp only [pua, puz, pus]
                           refine tk 6 ⟨some 262, .fieldAddr 29 (.tmp 261) 0, 0, "outright.go:206", #[⟨5, .data⟩], none⟩ hH ?_; simp only [pua, puz, pus]
                           refine tk 7 ⟨some 263, .load 3 (.tmp 262), 3, "outright.go:206", #[⟨6, .data⟩], none⟩ hH ?_; simp only [pua, puz, pus]
                           refine tk 8 ⟨some 264, .move (.tmp 28), 3, "outright.go:206", #[], none⟩ hH ?_; simp only [pua, puz, pus]
                           refine tk 9 ⟨some 265, .move (.tmp 30), 3, "outright.go:206", #[], none⟩ hH ?_; simp only [pua, puz, pus]
                           refine tk 10 ⟨some 266, .move (.tmp 28), 3, "outright.go:206", #[], none⟩ hH ?_; simp only [pua, puz, pus]
                           refine tk 11 ⟨some 267, .indexAddr 51 (.tmp 13) (.tmp 266), 0, "outright.go:206", #[⟨10, .data⟩], none⟩ hH ?_; simp only [pua, puz, pus]
                           refine tk 12 ⟨some 268, .fieldAddr 40 (.tmp 267) 1, 0, "outright.go:206", #[⟨11, .data⟩], none⟩ hH ?_; simp only [pua, puz, pus]
                           refine tk 13 ⟨some 269, .load 22 (.tmp 268), 22, "outright.go:206", #[⟨12, .data⟩], none⟩ hH ?_; simp only [pua, puz, pus]
                           refine tk 14 ⟨some 270, .call { callee := .builtin .len, args := #[.tmp 269], argTypes := #[22] }, 3, "outright.go:206", #[⟨13, .data⟩], none⟩ hH ?_; simp only [pua, puz, pus]
                           refine rd 15 ⟨some 271, .call { callee := .value (.func 13), args := #[.tmp 264, .tmp 265, .tmp 270], argTypes := #[3, 3, 3] }, 3, "outright.go:206", #[⟨8, .data⟩, ⟨9, .data⟩, ⟨14, .data⟩], none⟩ (fun K hK => ?_); go_simp
                           go_at_call 13
                           refine (HBB.out _).mono ?_
                           rintro e w2 ⟨rfl, e2⟩
                           rw [e2]
                           clear e2 w2
                           clear hH; refine hK.out _ _ (HC.out _ ((Below.refl _ _).drew)) (fun hH => ?_)
                           clear hK K; (try simp only [pua, puz, pus])
                           refine tk 16 ⟨some 272, .binOp .neq 3 (.tmp 263) (.tmp 271) 3, 4, "outright.go:206", #[⟨7, .data⟩, ⟨15, .data⟩], none⟩ hH ?_; simp only [pua, puz, pus]
                           refine tk 17 ⟨some 273, .move (.tmp 272), 4, "outright.go:206", #[⟨16, .data⟩, ⟨15, .chain⟩], none⟩ hH ?_; simp only [pua, puz, pus]
                           refine tk 18 ⟨some 274, .move (.tmp 30), 3, "outright.go:206", #[⟨17, .guard⟩], some (17, false)⟩ hH ?_; simp only [pua, puz, pus]
                           refine tk 19 ⟨some 275, .move (.tmp 28), 3, "outright.go:206", #[⟨17, .guard⟩], some (17, false)⟩ hH ?_; simp only [pua, puz, pus]
                           refine tk 20 ⟨some 276, .indexAddr 51 (.tmp 13) (.tmp 275), 0, "outright.go:206", #[⟨19, .data⟩, ⟨17, .guard⟩], some (17, false)⟩ hH ?_; simp only [pua, puz, pus]
                           refine tk 21 ⟨some 277, .fieldAddr 40 (.tmp 276) 1, 0, "outright.go:206", #[⟨20, .data⟩, ⟨17, .guard⟩], some (17, false)⟩ hH ?_; simp only [pua, puz, pus]
                           refine tk 22 ⟨some 278, .load 22 (.tmp 277), 22, "outright.go:206", #[⟨21, .data⟩, ⟨17, .guard⟩], some (17, false)⟩ hH ?_; simp only [pua, puz, pus]
                           refine tk 23 ⟨some 279, .call { callee := .builtin .len, args := #[.tmp 278], argTypes := #[22] }, 3, "outright.go:206", #[⟨22, .data⟩, ⟨17, .guard⟩], some (17, false)⟩ hH ?_; simp only [pua, puz, pus]
                           refine tk 24 ⟨some 280, .binOp .lss 3 (.tmp 274) (.tmp 279) 3, 4, "outright.go:206", #[⟨18, .data⟩, ⟨23, .data⟩, ⟨17, .guard⟩], some (17, false)⟩ hH ?_; simp only [pua, puz, pus]
                           refine tk 25 ⟨some 281, .move (.tmp 280), 4, "outright.go:206", #[⟨24, .data⟩, ⟨17, .chain⟩, ⟨17, .guard⟩], some (17, false)⟩ hH ?_; simp only [pua, puz, pus]
                           refine tks 26 ⟨some 282, .move (.tmp 28), 3, "outright.go:206", #[⟨25, .guard⟩], some (25, true)⟩ hH ?_; simp only [pua, puz, pus]
                           refine tks 27 ⟨some 283, .indexAddr 51 (.tmp 13) (.tmp 282), 0, "outright.go:206", #[⟨26, .data⟩, ⟨25, .guard⟩], some (25, true)⟩ hH ?_; simp only [pua, puz, pus]
                           refine tks 28 ⟨some 284, .fieldAddr 40 (.tmp 283) 1, 0, "outright.go:206", #[⟨27, .data⟩, ⟨25, .guard⟩], some (25, true)⟩ hH ?_; simp only [pua, puz, pus]
                           refine tks 29 ⟨some 285, .load 22 (.tmp 284), 22, "outright.go:206", #[⟨28, .data⟩, ⟨25, .guard⟩], some (25, true)⟩ hH ?_; simp only [pua, puz, pus]
                           refine tks 30 ⟨some 286, .move (.tmp 30), 3, "outright.go:206", #[⟨25, .guard⟩], some (25, true)⟩ hH ?_; simp only [pua, puz, pus]
                           refine tks 31 ⟨some 287, .indexAddr 22 (.tmp 285) (.tmp 286), 0, "outright.go:206", #[⟨29, .data⟩, ⟨30, .data⟩, ⟨25, .guard⟩], some (25, true)⟩ hH ?_; simp only [pua, puz, pus]
                           refine tks 32 ⟨some 288, .fieldAddr 45 (.tmp 287) 1, 0, "outright.go:206", #[⟨31, .data⟩, ⟨25, .guard⟩], some (25, true)⟩ hH ?_; simp only [pua, puz, pus]
                           refine tks 33 ⟨some 289, .fieldAddr 29 (.tmp 288) 0, 0, "outright.go:206", #[⟨32, .data⟩, ⟨25, .guard⟩], some (25, true)⟩ hH ?_; simp only [pua, puz, pus]
                           refine tks 34 ⟨some 290, .load 3 (.tmp 289), 3, "outright.go:206", #[⟨33, .data⟩, ⟨25, .guard⟩], some (25, true)⟩ hH ?_; simp only [pua, puz, pus]
                           refine tks 35 ⟨some 291, .move (.tmp 28), 3, "outright.go:206", #[⟨25, .guard⟩], some (25, true)⟩ hH ?_; simp only [pua, puz, pus]
                           refine tks 36 ⟨some 292, .binOp .add 3 (.const (.int .i64 10)) (.tmp 291) 3, 3, "outright.go:206", #[⟨35, .data⟩, ⟨25, .guard⟩], some (25, true)⟩ hH ?_; simp only [pua, puz, pus]
                           refine tks 37 ⟨some 293, .binOp .neq 3 (.tmp 290) (.tmp 292) 3, 4, "outright.go:206", #[⟨34, .data⟩, ⟨36, .data⟩, ⟨25, .guard⟩], some (25, true)⟩ hH ?_; simp only [pua, puz, pus]
                           refine tk 38 ⟨some 294, .pick (.tmp 281) (.tmp 293) (.const (.bool false)), 4, "outright.go:206", #[⟨25, .data⟩, ⟨37, .data⟩, ⟨17, .guard⟩], some (17, false)⟩ hH ?_; simp only [pua, puz, pus]
                           refine tk 39 ⟨some 295, .pick (.tmp 273) (.const (.bool true)) (.tmp 294), 4, "outright.go:206", #[⟨17, .data⟩, ⟨38, .data⟩], none⟩ hH ?_; simp only [pua, puz, pus]
                           refine wpAnyH_done (by kernel_rfl) ?_ _
                           clear hH
                           go_wp2_with fail
                           go_roundw
                           case rel => exact ⟨k + 1, by have := HKK.out.2.1; omega, by go_num, hid (HE.out.below (((Below.refl _ _).drew)))⟩
                           case measure => have := HKK.out.2.1; simp [intOf]; omega
                        ·obtain rfl : N = k := by omega
                         clear hk hlk hlook HN
                         as_aux_lemma =>
                          obtain ⟨N, hN⟩ : ∃ N, N = n3 + 40 := ⟨_, rfl⟩
                          have HN := hid hN
                          clear hN
                          go_wp2_with fail
                          go_loopw [31] (fun ix wr => ∃ k : Nat, k ≤ N ∧ ix = .int .i64 k ∧ Hid (EO WA wr f A1 A2 A3 q1 q2 q3 (L 0) b1 b2 b3 n1 n2 n3 3)) (fun ix _ => N - (intOf ix).toNat)
                          case atStart => exact ⟨0, Nat.zero_le _, by go_num, HE⟩
                          case round =>
                           clear HE
                           obtain ⟨k, hk, rfl, HE⟩ := hrel
                           obtain ⟨g, cap, hcn, hcm, hlook⟩ := HE.out.look3 hlt
                           rw [← HN.out] at hcn hlook
                           obtain ⟨s1, s2, -, -⟩ := hlook wr (Below.refl _ _)
                           by_cases hlk : k < N
                           ·have i2 : (k : Int) < (N : Int) := by omega
                            by_cases hkn : k < n3
                            ·obtain ⟨o, hA, -⟩ := (hlook wr (Below.refl _ _)).2.2.2 k hkn
                             have HC := hid (show ∀ W, Below wr.heap.size wr W → (W.cell? ⟨b3, i, none⟩ = some (.slice (some ⟨g, 0, none⟩) N cap) ∧ W.cell? ⟨g, k * 2, none⟩ = some (.string (mkStr [10 + (i : Int)])) ∧ W.cell? ⟨WA.heap.size, i * 5 + 4, none⟩ = some (.slice (some ⟨o, 0, none⟩) n3 (q3 i)) ∧ W.cell? ⟨o, k * 2, none⟩ = some (.string (mkStr [10 + (i : Int)]))) from fun W hb => by
                              obtain ⟨h1, h2, h3, h4⟩ := hlook W hb
                              have h5 := h3 k hlk
                              obtain ⟨o2, hA2, h6⟩ := h4 k hkn
                              rw [hA] at hA2
                              injection hA2 with hA2
                              injection hA2 with hA2
                              subst hA2
                              rw [brs_lt hkn, show ((10 + i : Nat) : Int) = 10 + (i : Int) from by omega] at h5
                              rw [hA] at h2
                              exact ⟨h1, h5, h2, h6⟩)
                             have hB : ∀ W, Calls Tryz.prog 13 #[.int .i64 i, .int .i64 k, .int .i64 n3] W fun e w' => e = .returned (.int .i64 (10 + (i : Int))) ∧ w' = W := fun W => by
                              have h := HB.out k n3 W
                              rw [if_pos hkn, show ((10 + i : Nat) : Int) = 10 + (i : Int) from by omega] at h
                              exact h
                             have hdk : decide ((k : Int) < (n3 : Int)) = true := by rw [decide_eq_true_eq]; omega
                             have hdk2 : decide (k < n3) = true := by rw [decide_eq_true_eq]; exact hkn
                             have HBB := hid hB
                             have HKK := hid (And.intro hk (And.intro hlk hkn))
                             clear hB hlook hA
                             as_aux_lemma =>
                              have hw10 := HW10.out
                              have i3 : k < 1000 := by have := HN.out; omega
                              go_upto_region 67 with fail
                              clear s1 s2
                              have hw8 : IntKind.u8.wrap (10 + (i : Int)) = 10 + (i : Int) := by rw [IntKind.wrap_u8]; omega
                              have hcv := conv_newD (10 + (i : Int))
                              have hcv2 := conv_newD2 (10 + (i : Int))
                              refine wp_region_held_drew (S := (fun wx => wx.cell? ⟨b3, i, none⟩ = some (.slice (some ⟨g, 0, none⟩) N cap) ∧ wx.cell? ⟨g, k * 2, none⟩ = some (.string (mkStr [10 + (i : Int)])) ∧ wx.cell? ⟨WA.heap.size, i * 5 + 4, none⟩ = some (.slice (some ⟨o, 0, none⟩) n3 (q3 i)) ∧ wx.cell? ⟨o, k * 2, none⟩ = some (.string (mkStr [10 + (i : Int)])))) (by kernel_rfl) (HC.out _ ((Below.refl _ _).drew)) (fun hH => ?_)
                              refine tk 0 ⟨some 304, .move (.tmp 28), 3, "outright.go:211", #[], none⟩ hH ?_; simp only [pua, puz, pus]
                              refine tk 1 ⟨some 305, .indexAddr 58 (.tmp 22) (.tmp 304), 0, "outright.go:211", #[⟨0, .data⟩], none⟩ hH ?_; simp only [pua, puz, pus]
                              refine tk 2 ⟨some 306, .load 38 (.tmp 305), 38, "outright.go:211", #[⟨1, .data⟩], none⟩ hH ?_; simp only [pua, puz, pus]
                              refine tk 3 ⟨some 307, .move (.tmp 31), 3, "outright.go:211", #[], none⟩ hH ?_; simp only [pua, puz, pus]
                              refine tk 4 ⟨some 308, .indexAddr 38 (.tmp 306) (.tmp 307), 0, "outright.go:211", #[⟨2, .data⟩, ⟨3, .data⟩], none⟩ hH ?_; simp only [pua, puz, pus]
                              refine tk 5 ⟨some 309, .fieldAddr 55 (.tmp 308) 0, 0, "outright.go:211", #[⟨4, .data⟩], none⟩ hH ?_; simp only [pua, puz, pus]
                              refine tk 6 ⟨some 310, .load 9 (.tmp 309), 9, "outright.go:211", #[⟨5, .data⟩], none⟩ hH ?_; simp only [pua, puz, pus]
                              refine tk 7 ⟨some 311, .move (.tmp 28), 3, "outright.go:211", #[], none⟩ hH ?_; simp only [pua, puz, pus]
                              refine tk 8 ⟨some 312, .move (.tmp 31), 3, "outright.go:211", #[], none⟩ hH ?_; simp only [pua, puz, pus]
                              refine tk 9 ⟨some 313, .move (.tmp 28), 3, "outright.go:211", #[], none⟩ hH ?_; simp only [pua, puz, pus]
                              refine tk 10 ⟨some 314, .indexAddr 51 (.tmp 13) (.tmp 313), 0, "outright.go:211", #[⟨9, .data⟩], none⟩ hH ?_; simp only [pua, puz, pus]
                              refine tk 11 ⟨some 315, .fieldAddr 40 (.tmp 314) 2, 0, "outright.go:211", #[⟨10, .data⟩], none⟩ hH ?_; simp only [pua, puz, pus]
                              refine tk 12 ⟨some 316, .load 38 (.tmp 315), 38, "outright.go:211", #[⟨11, .data⟩], none⟩ hH ?_; simp only [pua, puz, pus]
                              refine tk 13 ⟨some 317, .call { callee := .builtin .len, args := #[.tmp 316], argTypes := #[38] }, 3, "outright.go:211", #[⟨12, .data⟩], none⟩ hH ?_; simp only [pua, puz, pus]
                              refine rd 14 ⟨some 318, .call { callee := .value (.func 13), args := #[.tmp 311, .tmp 312, .tmp 317], argTypes := #[3, 3, 3] }, 3, "outright.go:211", #[⟨7, .data⟩, ⟨8, .data⟩, ⟨13, .data⟩], none⟩ (fun K hK => ?_); go_simp
                              go_at_call 13
                              refine (HBB.out _).mono ?_
                              rintro e w2 ⟨rfl, e2⟩
                              rw [e2]
                              clear e2 w2
                              clear hH; refine hK.out _ _ (HC.out _ ((Below.refl _ _).drew)) (fun hH => ?_)
                              clear hK K; (try simp only [pua, puz, pus])
                              refine tk 15 ⟨some 319, .convert 3 5 (.tmp 318), 5, "outright.go:211", #[⟨14, .data⟩], none⟩ hH ?_; simp only [pua, puz, pus]
                              refine rd 16 ⟨some 320, .buildSlice 53 1 #[(0, .tmp 319)], 53, "outright.go:211", #[⟨15, .data⟩], none⟩ (fun K hK => ?_); go_simp
                              clear hH; refine hK.out _ _ (HC.out _ (below1 _ _).drew) (fun hH => ?_)
                              clear hK K; (try simp only [pua, puz, pus])
                              refine rd 17 ⟨some 321, .convert 53 9 (.tmp 320), 9, "outright.go:211", #[⟨16, .data⟩], none⟩ (fun K hK => ?_); go_simp
                              clear hH; refine hK.out _ _ (HC.out _ (below1 _ _).drew) (fun hH => ?_)
                              clear hK K; (try simp only [pua, puz, pus])
                              refine tk 18 ⟨some 322, .binOp .neq 9 (.tmp 310) (.tmp 321) 9, 4, "outright.go:211", #[⟨6, .data⟩, ⟨17, .data⟩], none⟩ hH ?_; simp only [pua, puz, pus]
                              refine tk 19 ⟨some 323, .move (.tmp 322), 4, "outright.go:211", #[⟨18, .data⟩, ⟨14, .chain⟩], none⟩ hH ?_; simp only [pua, puz, pus]
                              refine tk 20 ⟨some 324, .move (.tmp 31), 3, "outright.go:211", #[⟨19, .guard⟩], some (19, false)⟩ hH ?_; simp only [pua, puz, pus]
                              refine tk 21 ⟨some 325, .move (.tmp 28), 3, "outright.go:211", #[⟨19, .guard⟩], some (19, false)⟩ hH ?_; simp only [pua, puz, pus]
                              refine tk 22 ⟨some 326, .indexAddr 51 (.tmp 13) (.tmp 325), 0, "outright.go:211", #[⟨21, .data⟩, ⟨19, .guard⟩], some (19, false)⟩ hH ?_; simp only [pua, puz, pus]
                              refine tk 23 ⟨some 327, .fieldAddr 40 (.tmp 326) 2, 0, "outright.go:211", #[⟨22, .data⟩, ⟨19, .guard⟩], some (19, false)⟩ hH ?_; simp only [pua, puz, pus]
                              refine tk 24 ⟨some 328, .load 38 (.tmp 327), 38, "outright.go:211", #[⟨23, .data⟩, ⟨19, .guard⟩], some (19, false)⟩ hH ?_; simp only [pua, puz, pus]
                              refine tk 25 ⟨some 329, .call { callee := .builtin .len, args := #[.tmp 328], argTypes := #[38] }, 3, "outright.go:211", #[⟨24, .data⟩, ⟨19, .guard⟩], some (19, false)⟩ hH ?_; simp only [pua, puz, pus]
                              refine tk 26 ⟨some 330, .binOp .lss 3 (.tmp 324) (.tmp 329) 3, 4, "outright.go:211", #[⟨20, .data⟩, ⟨25, .data⟩, ⟨19, .guard⟩], some (19, false)⟩ hH ?_; simp only [pua, puz, pus]
                              refine tk 27 ⟨some 331, .move (.tmp 330), 4, "outright.go:211", #[⟨26, .data⟩, ⟨19, .chain⟩, ⟨19, .guard⟩], some (19, false)⟩ hH ?_; simp only [pua, puz, pus]
                              refine tk 28 ⟨some 332, .move (.tmp 28), 3, "outright.go:211", #[⟨27, .guard⟩], some (27, true)⟩ hH ?_; simp only [pua, puz, pus]
                              refine tk 29 ⟨some 333, .indexAddr 51 (.tmp 13) (.tmp 332), 0, "outright.go:211", #[⟨28, .data⟩, ⟨27, .guard⟩], some (27, true)⟩ hH ?_; simp only [pua, puz, pus]
                              refine tk 30 ⟨some 334, .fieldAddr 40 (.tmp 333) 2, 0, "outright.go:211", #[⟨29, .data⟩, ⟨27, .guard⟩], some (27, true)⟩ hH ?_; simp only [pua, puz, pus]
                              refine tk 31 ⟨some 335, .load 38 (.tmp 334), 38, "outright.go:211", #[⟨30, .data⟩, ⟨27, .guard⟩], some (27, true)⟩ hH ?_; simp only [pua, puz, pus]
                              refine tk 32 ⟨some 336, .move (.tmp 31), 3, "outright.go:211", #[⟨27, .guard⟩], some (27, true)⟩ hH ?_; simp only [pua, puz, pus]
                              refine tk 33 ⟨some 337, .indexAddr 38 (.tmp 335) (.tmp 336), 0, "outright.go:211", #[⟨31, .data⟩, ⟨32, .data⟩, ⟨27, .guard⟩], some (27, true)⟩ hH ?_; simp only [pua, puz, pus]
                              refine tk 34 ⟨some 338, .fieldAddr 55 (.tmp 337) 0, 0, "outright.go:211", #[⟨33, .data⟩, ⟨27, .guard⟩], some (27, true)⟩ hH ?_; simp only [pua, puz, pus]
                              refine tk 35 ⟨some 339, .load 9 (.tmp 338), 9, "outright.go:211", #[⟨34, .data⟩, ⟨27, .guard⟩], some (27, true)⟩ hH ?_; simp only [pua, puz, pus]
                              refine tk 36 ⟨some 340, .move (.tmp 28), 3, "outright.go:211", #[⟨27, .guard⟩], some (27, true)⟩ hH ?_; simp only [pua, puz, pus]
                              refine tk 37 ⟨some 341, .binOp .add 3 (.const (.int .i64 10)) (.tmp 340) 3, 3, "outright.go:211", #[⟨36, .data⟩, ⟨27, .guard⟩], some (27, true)⟩ hH ?_; simp only [pua, puz, pus]
                              refine tk 38 ⟨some 342, .convert 3 5 (.tmp 341), 5, "outright.go:211", #[⟨37, .data⟩, ⟨27, .guard⟩], some (27, true)⟩ hH ?_; simp only [pua, puz, pus]
                              refine rd 39 ⟨some 343, .buildSlice 53 1 #[(0, .tmp 342)], 53, "outright.go:211", #[⟨38, .data⟩, ⟨27, .guard⟩], some (27, true)⟩ (fun K hK => ?_); go_simp
                              clear hH; refine hK.out _ _ (HC.out _ ((below1 _ _).alloc (by simp) _).drew) (fun hH => ?_)
                              clear hK K; (try simp only [pua, puz, pus])
                              refine rd 40 ⟨some 344, .convert 53 9 (.tmp 343), 9, "outright.go:211", #[⟨39, .data⟩, ⟨27, .guard⟩], some (27, true)⟩ (fun K hK => ?_); go_simp
                              clear hH; refine hK.out _ _ (HC.out _ ((below1 _ _).alloc (by simp) _).drew) (fun hH => ?_)
                              clear hK K; (try simp only [pua, puz, pus])
                              refine tk 41 ⟨some 345, .binOp .neq 9 (.tmp 339) (.tmp 344) 9, 4, "outright.go:211", #[⟨35, .data⟩, ⟨40, .data⟩, ⟨27, .guard⟩], some (27, true)⟩ hH ?_; simp only [pua, puz, pus]
                              refine tk 42 ⟨some 346, .pick (.tmp 331) (.tmp 345) (.const (.bool false)), 4, "outright.go:211", #[⟨27, .data⟩, ⟨41, .data⟩, ⟨19, .guard⟩], some (19, false)⟩ hH ?_; simp only [pua, puz, pus]
                              refine tk 43 ⟨some 347, .pick (.tmp 323) (.const (.bool true)) (.tmp 346), 4, "outright.go:211", #[⟨19, .data⟩, ⟨42, .data⟩], none⟩ hH ?_; simp only [pua, puz, pus]
                              refine wpAnyH_done (by kernel_rfl) ?_ _
                              clear hH
                              go_wp2_with fail
                              go_roundw
                              case rel => exact ⟨k + 1, by have := HKK.out.2.1; omega, by go_num, hid (HE.out.below (((below1 _ _).alloc (by simp) _).drew))⟩
                              case measure => have := HKK.out.2.1; simp [intOf]; omega
                            ·have HC := hid (show ∀ W, Below wr.heap.size wr W → (W.cell? ⟨b3, i, none⟩ = some (.slice (some ⟨g, 0, none⟩) N cap) ∧ W.cell? ⟨g, k * 2, none⟩ = some (.string (mkStr [100 + (i : Int)])) ∧ W.cell? ⟨WA.heap.size, i * 5 + 4, none⟩ = some (.slice (A3 i) n3 (q3 i))) from fun W hb => by
                              obtain ⟨h1, h2, h3, h4⟩ := hlook W hb
                              have h5 := h3 k hlk
                              rw [brs_ge (by omega), show ((100 + i : Nat) : Int) = 100 + (i : Int) from by omega] at h5
                              exact ⟨h1, h5, h2⟩)
                             have hB : ∀ W, Calls Tryz.prog 13 #[.int .i64 i, .int .i64 k, .int .i64 n3] W fun e w' => e = .returned (.int .i64 (100 + (i : Int))) ∧ w' = W := fun W => by
                              have h := HB.out k n3 W
                              rw [if_neg hkn, show ((100 + i : Nat) : Int) = 100 + (i : Int) from by omega] at h
                              exact h
                             have hdk : decide ((k : Int) < (n3 : Int)) = false := by rw [decide_eq_false_iff_not]; omega
                             have hdk2 : decide (k < n3) = false := by rw [decide_eq_false_iff_not]; exact hkn
                             have HBB := hid hB
                             have HKK := hid (And.intro hk (And.intro hlk hkn))
                             clear hB hlook
                             as_aux_lemma =>
                              have hw10 := HW10.out
                              have i3 : k < 1000 := by have := HN.out; omega
                              go_upto_region 67 with fail
                              clear s1 s2
                              have hw8 : IntKind.u8.wrap (100 + (i : Int)) = 100 + (i : Int) := by rw [IntKind.wrap_u8]; omega
                              have hcv := conv_newD (100 + (i : Int))
                              have hcv2 := conv_newD2 (100 + (i : Int))
                              refine wp_region_held_drew (S := (fun wx => wx.cell? ⟨b3, i, none⟩ = some (.slice (some ⟨g, 0, none⟩) N cap) ∧ wx.cell? ⟨g, k * 2, none⟩ = some (.string (mkStr [100 + (i : Int)])) ∧ wx.cell? ⟨WA.heap.size, i * 5 + 4, none⟩ = some (.slice (A3 i) n3 (q3 i)))) (by kernel_rfl) (HC.out _ ((Below.refl _ _).drew)) (fun hH => ?_)
                              refine tk 0 ⟨some 304, .move (.tmp 28), 3, "outright.go:211", #[], none⟩ hH ?_; simp only [pua, puz, pus]
                              refine tk 1 ⟨some 305, .indexAddr 58 (.tmp 22) (.tmp 304), 0, "outright.go:211", #[⟨0, .data⟩], none⟩ hH ?_; simp only [pua, puz, pus]
                              refine tk 2 ⟨some 306, .load 38 (.tmp 305), 38, "outright.go:211", #[⟨1, .data⟩], none⟩ hH ?_; simp only [pua, puz, pus]
                              refine tk 3 ⟨some 307, .move (.tmp 31), 3, "outright.go:211", #[], none⟩ hH ?_; simp only [pua, puz, pus]
                              refine tk 4 ⟨some 308, .indexAddr 38 (.tmp 306) (.tmp 307), 0, "outright.go:211", #[⟨2, .data⟩, ⟨3, .data⟩], none⟩ hH ?_; simp only [pua, puz, pus]
                              refine tk 5 ⟨some 309, .fieldAddr 55 (.tmp 308) 0, 0, "outright.go:211", #[⟨4, .data⟩], none⟩ hH ?_; simp only [pua, puz, pus]
                              refine tk 6 ⟨some 310, .load 9 (.tmp 309), 9, "outright.go:211", #[⟨5, .data⟩], none⟩ hH ?_; simp only [pua, puz, pus]
                              refine tk 7 ⟨some 311, .move (.tmp 28), 3, "outright.go:211", #[], none⟩ hH ?_; simp only [pua, puz, pus]
                              refine tk 8 ⟨some 312, .move (.tmp 31), 3, "outright.go:211", #[], none⟩ hH ?_; simp only [pua, puz, pus]
                              refine tk 9 ⟨some 313, .move (.tmp 28), 3, "outright.go:211", #[], none⟩ hH ?_; simp only [pua, puz, pus]
                              refine tk 10 ⟨some 314, .indexAddr 51 (.tmp 13) (.tmp 313), 0, "outright.go:211", #[⟨9, .data⟩], none⟩ hH ?_; simp only [pua, puz, pus]
                              refine tk 11 ⟨some 315, .fieldAddr 40 (.tmp 314) 2, 0, "outright.go:211", #[⟨10, .data⟩], none⟩ hH ?_; simp only [pua, puz, pus]
                              refine tk 12 ⟨some 316, .load 38 (.tmp 315), 38, "outright.go:211", #[⟨11, .data⟩], none⟩ hH ?_; simp only [pua, puz, pus]
                              refine tk 13 ⟨some 317, .call { callee := .builtin .len, args := #[.tmp 316], argTypes := #[38] }, 3, "outright.go:211", #[⟨12, .data⟩], none⟩ hH ?_; simp only [pua, puz, pus]
                              refine rd 14 ⟨some 318, .call { callee := .value (.func 13), args := #[.tmp 311, .tmp 312, .tmp 317], argTypes := #[3, 3, 3] }, 3, "outright.go:211", #[⟨7, .data⟩, ⟨8, .data⟩, ⟨13, .data⟩], none⟩ (fun K hK => ?_); go_simp
                              go_at_call 13
                              refine (HBB.out _).mono ?_
                              rintro e w2 ⟨rfl, e2⟩
                              rw [e2]
                              clear e2 w2
                              clear hH; refine hK.out _ _ (HC.out _ ((Below.refl _ _).drew)) (fun hH => ?_)
                              clear hK K; (try simp only [pua, puz, pus])
                              refine tk 15 ⟨some 319, .convert 3 5 (.tmp 318), 5, "outright.go:211", #[⟨14, .data⟩], none⟩ hH ?_; simp only [pua, puz, pus]
                              refine rd 16 ⟨some 320, .buildSlice 53 1 #[(0, .tmp 319)], 53, "outright.go:211", #[⟨15, .data⟩], none⟩ (fun K hK => ?_); go_simp
                              clear hH; refine hK.out _ _ (HC.out _ (below1 _ _).drew) (fun hH => ?_)
                              clear hK K; (try simp only [pua, puz, pus])
                              refine rd 17 ⟨some 321, .convert 53 9 (.tmp 320), 9, "outright.go:211", #[⟨16, .data⟩], none⟩ (fun K hK => ?_); go_simp
                              clear hH; refine hK.out _ _ (HC.out _ (below1 _ _).drew) (fun hH => ?_)
                              clear hK K; (try simp only [pua, puz, pus])
                              refine tk 18 ⟨some 322, .binOp .neq 9 (.tmp 310) (.tmp 321) 9, 4, "outright.go:211", #[⟨6, .data⟩, ⟨17, .data⟩], none⟩ hH ?_; simp only [pua, puz, pus]
                              refine tk 19 ⟨some 323, .move (.tmp 322), 4, "outright.go:211", #[⟨18, .data⟩, ⟨14, .chain⟩], none⟩ hH ?_; simp only [pua, puz, pus]
                              refine tk 20 ⟨some 324, .move (.tmp 31), 3, "outright.go:211", #[⟨19, .guard⟩], some (19, false)⟩ hH ?_; simp only [pua, puz, pus]
                              refine tk 21 ⟨some 325, .move (.tmp 28), 3, "outright.go:211", #[⟨19, .guard⟩], some (19, false)⟩ hH ?_; simp only [pua, puz, pus]
                              refine tk 22 ⟨some 326, .indexAddr 51 (.tmp 13) (.tmp 325), 0, "outright.go:211", #[⟨21, .data⟩, ⟨19, .guard⟩], some (19, false)⟩ hH ?_; simp only [pua, puz, pus]
                              refine tk 23 ⟨some 327, .fieldAddr 40 (.tmp 326) 2, 0, "outright.go:211", #[⟨22, .data⟩, ⟨19, .guard⟩], some (19, false)⟩ hH ?_; simp only [pua, puz, pus]
                              refine tk 24 ⟨some 328, .load 38 (.tmp 327), 38, "outright.go:211", #[⟨23, .data⟩, ⟨19, .guard⟩], some (19, false)⟩ hH ?_; simp only [pua, puz, pus]
                              refine tk 25 ⟨some 329, .call { callee := .builtin .len, args := #[.tmp 328], argTypes := #[38] }, 3, "outright.go:211", #[⟨24, .data⟩, ⟨19, .guard⟩], some (19, false)⟩ hH ?_; simp only [pua, puz, pus]
                              refine tk 26 ⟨some 330, .binOp .lss 3 (.tmp 324) (.tmp 329) 3, 4, "outright.go:211", #[⟨20, .data⟩, ⟨25, .data⟩, ⟨19, .guard⟩], some (19, false)⟩ hH ?_; simp only [pua, puz, pus]
                              refine tk 27 ⟨some 331, .move (.tmp 330), 4, "outright.go:211", #[⟨26, .data⟩, ⟨19, .chain⟩, ⟨19, .guard⟩], some (19, false)⟩ hH ?_; simp only [pua, puz, pus]
                              refine tks 28 ⟨some 332, .move (.tmp 28), 3, "outright.go:211", #[⟨27, .guard⟩], some (27, true)⟩ hH ?_; simp only [pua, puz, pus]
                              refine tks 29 ⟨some 333, .indexAddr 51 (.tmp 13) (.tmp 332), 0, "outright.go:211", #[⟨28, .data⟩, ⟨27, .guard⟩], some (27, true)⟩ hH ?_; simp only [pua, puz, pus]
                              refine tks 30 ⟨some 334, .fieldAddr 40 (.tmp 333) 2, 0, "outright.go:211", #[⟨29, .data⟩, ⟨27, .guard⟩], some (27, true)⟩ hH ?_; simp only [pua, puz, pus]
                              refine tks 31 ⟨some 335, .load 38 (.tmp 334), 38, "outright.go:211", #[⟨30, .data⟩, ⟨27, .guard⟩], some (27, true)⟩ hH ?_; simp only [pua, puz, pus]
                              refine tks 32 ⟨some 336, .move (.tmp 31), 3, "outright.go:211", #[⟨27, .guard⟩], some (27, true)⟩ hH ?_; simp only [pua, puz, pus]
                              refine tks 33 ⟨some 337, .indexAddr 38 (.tmp 335) (.tmp 336), 0, "outright.go:211", #[⟨31, .data⟩, ⟨32, .data⟩, ⟨27, .guard⟩], some (27, true)⟩ hH ?_; simp only [pua, puz, pus]
                              refine tks 34 ⟨some 338, .fieldAddr 55 (.tmp 337) 0, 0, "outright.go:211", #[⟨33, .data⟩, ⟨27, .guard⟩], some (27, true)⟩ hH ?_; simp only [pua, puz, pus]
                              refine tks 35 ⟨some 339, .load 9 (.tmp 338), 9, "outright.go:211", #[⟨34, .data⟩, ⟨27, .guard⟩], some (27, true)⟩ hH ?_; simp only [pua, puz, pus]
                              refine tks 36 ⟨some 340, .move (.tmp 28), 3, "outright.go:211", #[⟨27, .guard⟩], some (27, true)⟩ hH ?_; simp only [pua, puz, pus]
                              refine tks 37 ⟨some 341, .binOp .add 3 (.const (.int .i64 10)) (.tmp 340) 3, 3, "outright.go:211", #[⟨36, .data⟩, ⟨27, .guard⟩], some (27, true)⟩ hH ?_; simp only [pua, puz, pus]
                              refine tks 38 ⟨some 342, .convert 3 5 (.tmp 341), 5, "outright.go:211", #[⟨37, .data⟩, ⟨27, .guard⟩], some (27, true)⟩ hH ?_; simp only [pua, puz, pus]
                              refine tks 39 ⟨some 343, .buildSlice 53 1 #[(0, .tmp 342)], 53, "outright.go:211", #[⟨38, .data⟩, ⟨27, .guard⟩], some (27, true)⟩ hH ?_; simp only [pua, puz, pus]
                              refine tks 40 ⟨some 344, .convert 53 9 (.tmp 343), 9, "outright.go:211", #[⟨39, .data⟩, ⟨27, .guard⟩], some (27, true)⟩ hH ?_; simp only [pua, puz, pus]
                              refine tks 41 ⟨some 345, .binOp .neq 9 (.tmp 339) (.tmp 344) 9, 4, "outright.go:211", #[⟨35, .data⟩, ⟨40, .data⟩, ⟨27, .guard⟩], some (27, true)⟩ hH ?_; simp only [pua, puz, pus]
                              refine tk 42 ⟨some 346, .pick (.tmp 331) (.tmp 345) (.const (.bool false)), 4, "outright.go:211", #[⟨27, .data⟩, ⟨41, .data⟩, ⟨19, .guard⟩], some (19, false)⟩ hH ?_; simp only [pua, puz, pus]
                              refine tk 43 ⟨some 347, .pick (.tmp 323) (.const (.bool true)) (.tmp 346), 4, "outright.go:211", #[⟨19, .data⟩, ⟨42, .data⟩], none⟩ hH ?_; simp only [pua, puz, pus]
                              refine wpAnyH_done (by kernel_rfl) ?_ _
                              clear hH
                              go_wp2_with fail
                              go_roundw
                              case rel => exact ⟨k + 1, by have := HKK.out.2.1; omega, by go_num, hid (HE.out.below ((below1 _ _).drew))⟩
                              case measure => have := HKK.out.2.1; simp [intOf]; omega
                           ·obtain rfl : N = k := by omega
                            clear hk hlk hlook HN
                            as_aux_lemma =>
                             go_wp2_with fail
                             go_roundw
                             case rel => exact ⟨i + 1, by omega, by go_num, HE⟩
                             case measure => simp [intOf]; omega
                  ·obtain rfl : i = 3 := by omega
                   rw [show ((3 : Nat) : Int) = 3 from rfl]
                   clear hi3 hlt
                   have HL1 := hid HE.out.bl.drew
                   clear HE
                   have HC := hid (show ∀ W, Below WA.heap.size WA W → (W.cell? ⟨b7, 0, none⟩ = some (.slice sa TN sc) ∧ W.cell? ⟨b7, 1, none⟩ = some (.slice none 0 0) ∧ W.cell? ⟨b8, 0, none⟩ = some (.slice ba TN bc) ∧ W.cell? ⟨b9, 0, none⟩ = some (.string nm) ∧ W.cell? ⟨b9, 1, none⟩ = some (.int .i64 ar) ∧ W.cell? ⟨b9, 2, none⟩ = some (.slice (some ⟨g1, 0, none⟩) n c1) ∧ W.cell? ⟨w.heap.size, 0, none⟩ = some (.string nm) ∧ W.cell? ⟨w.heap.size, 1, none⟩ = some (.int .i64 ar) ∧ W.cell? ⟨w.heap.size, 2, none⟩ = some (.slice ac n cc) ∧ W.cell? ⟨b12, 0, none⟩ = some (.int .i64 f.st) ∧ W.cell? ⟨b12, 1, none⟩ = some (.int .i64 f.at_) ∧ W.cell? ⟨b12, 2, none⟩ = some (.slice t1 f.td.length k1) ∧ W.cell? ⟨b12, 3, none⟩ = some (.slice t2 f.wr.length k2) ∧ W.cell? ⟨b12, 4, none⟩ = some (.slice t3 f.lk.length k3)) from fun W hb => by
                    have hO := HA.out.below hb
                    obtain ⟨e0, e1, e2, e3, e4, -⟩ := cells5f hO.fi.bx
                    obtain ⟨a0, a1, a2, -⟩ := vfacts hO.x9
                    obtain ⟨p0, p1, p2, -⟩ := vfacts hO.x4
                    obtain ⟨s0, s1, -⟩ := cells2f hO.x7
                    obtain ⟨r0, -, -⟩ := cells2f hO.x8
                    exact ⟨s0, s1, r0, a0, a1, a2, p0, p1, p2, e0, e1, e2, e3, e4⟩)
                   have HSE := hid (fun (W : World) (hb : Below WA.heap.size WA W) => (show Calls Tryz.prog 14 #[.slice sa TN sc, .slice ba TN bc] W fun e w' => e = .returned (.bool true) ∧ Below W.heap.size W w' from by
                    have hl := HL.out.2.2.2.2.2
                    have h1 := (HA.out.below hb).rs
                    have h2 := (HA.out.below hb).rb
                    have eT := HL.out.1
                    rw [eT] at h1 h2 ⊢
                    exact same36_any _ _ T W (by omega) h1 h2))
                   have HKE := hid (fun (W : World) (hb : Below WA.heap.size WA W) => (show Calls Tryz.prog 15 #[.pointer (some ⟨p, 0, none⟩), .agg #[.slice sa TN sc, .slice none 0 0]] W fun e w' => e = .returned (.bool true) ∧ Below W.heap.size W w' from by
                    have hl := HL.out.2.2.2.2.2
                    have h1 := (HA.out.below hb).rs
                    have h2 := (HA.out.below hb).vc
                    have eT := HL.out.1
                    rw [eT] at h1 ⊢
                    exact kept_any p _ T W h2 h1 (by omega) HP.out.1))
                   have HSD := hid (fun (W : World) (hb : Below WA.heap.size WA W) => (show Calls Tryz.prog 16 #[.agg #[.string nm, .int .i64 ar, .slice (some ⟨g1, 0, none⟩) n c1], .slice (some ⟨g2, 0, none⟩) m c2, .agg #[.string nm, .int .i64 ar, .slice ac n cc], .slice aa m ca] W fun e w' => e = .returned (.bool true) ∧ Below W.heap.size W w' from by
                    have hO := HA.out.below hb
                    have h1 := hO.tw1
                    have h2 := hO.tw2
                    have u1 := hO.q1
                    have u2 := hO.q2
                    have hbl := hO.bl
                    have en := HL.out.2.1
                    have em := HL.out.2.2.1
                    rw [en] at h1 u1 ⊢
                    rw [em] at h2 u2 ⊢
                    exact stand_any nm ar _ _ xs al g1 c1 g2 c2 W (HP.out.2.1.below hbl) (HP.out.2.2.1.below hbl) HL.out.2.2.2.1 HL.out.2.2.2.2.1 h1 h2 u1 u2))
                   have HSM := hid (fun (W : World) (hb : Below WA.heap.size WA W) (a1 a2 a3 : Option Addr) (r1 r2 r3 : Nat) (hE : EfW W f.td f.wr f.lk a1 a2 a3 r1 r2 r3) => same_any f.st f.at_ a1 a2 a3 t1 t2 t3 r1 r2 r3 k1 k2 k3 f.td f.wr f.lk W HEE.out.tdl HEE.out.wrl HEE.out.lkl hE ⟨(HA.out.below hb).fi.o1, (HA.out.below hb).fi.o2, (HA.out.below hb).fi.o3⟩)
                   as_aux_lemma =>
                    go_upto_region 69 with fail
                    refine wp_region_held_drew (S := (fun wx => wx.cell? ⟨b7, 0, none⟩ = some (.slice sa TN sc) ∧ wx.cell? ⟨b7, 1, none⟩ = some (.slice none 0 0) ∧ wx.cell? ⟨b8, 0, none⟩ = some (.slice ba TN bc) ∧ wx.cell? ⟨b9, 0, none⟩ = some (.string nm) ∧ wx.cell? ⟨b9, 1, none⟩ = some (.int .i64 ar) ∧ wx.cell? ⟨b9, 2, none⟩ = some (.slice (some ⟨g1, 0, none⟩) n c1) ∧ wx.cell? ⟨w.heap.size, 0, none⟩ = some (.string nm) ∧ wx.cell? ⟨w.heap.size, 1, none⟩ = some (.int .i64 ar) ∧ wx.cell? ⟨w.heap.size, 2, none⟩ = some (.slice ac n cc) ∧ wx.cell? ⟨b12, 0, none⟩ = some (.int .i64 f.st) ∧ wx.cell? ⟨b12, 1, none⟩ = some (.int .i64 f.at_) ∧ wx.cell? ⟨b12, 2, none⟩ = some (.slice t1 f.td.length k1) ∧ wx.cell? ⟨b12, 3, none⟩ = some (.slice t2 f.wr.length k2) ∧ wx.cell? ⟨b12, 4, none⟩ = some (.slice t3 f.lk.length k3))) (by kernel_rfl) (HC.out _ HL1.out) (fun hH => ?_)
                    refine tk 0 ⟨some 348, .fieldAddr 26 (.tmp 7) 0, 0, "outright.go:216", #[], none⟩ hH ?_; simp only [pua, puz, pus]
                    refine tk 1 ⟨some 349, .load 22 (.tmp 348), 22, "outright.go:216", #[⟨0, .data⟩], none⟩ hH ?_; simp only [pua, puz, pus]
                    refine tk 2 ⟨some 350, .fieldAddr 26 (.tmp 8) 0, 0, "outright.go:216", #[], none⟩ hH ?_; simp only [pua, puz, pus]
                    refine tk 3 ⟨some 351, .load 22 (.tmp 350), 22, "outright.go:216", #[⟨2, .data⟩], none⟩ hH ?_; simp only [pua, puz, pus]
                    refine rd 4 ⟨some 352, .call { callee := .value (.func 14), args := #[.tmp 349, .tmp 351], argTypes := #[22, 22] }, 4, "outright.go:216", #[⟨1, .data⟩, ⟨3, .data⟩], none⟩ (fun K hK => ?_); go_simp
                    go_at_call 14
                    refine (HSE.out _ HL1.out).mono ?_
                    rintro e w2 ⟨rfl, hb2⟩
                    have HL2 := hid (below_on HL1.out hb2)
                    clear hb2 HSE HL1
                    clear hH; refine hK.out _ _ (HC.out _ HL2.out) (fun hH => ?_)
                    clear hK K; (try simp only [pua, puz, pus])
                    refine tk 5 ⟨some 353, .move (.tmp 352), 4, "outright.go:216", #[⟨4, .data⟩, ⟨4, .chain⟩], none⟩ hH ?_; simp only [pua, puz, pus]
                    refine tk 6 ⟨some 354, .move (.tmp 11), 42, "outright.go:216", #[⟨5, .guard⟩], some (5, true)⟩ hH ?_; simp only [pua, puz, pus]
                    refine tk 7 ⟨some 355, .load 26 (.tmp 7), 26, "outright.go:216", #[⟨5, .guard⟩], some (5, true)⟩ hH ?_; simp only [pua, puz, pus]
                    refine rd 8 ⟨some 356, .call { callee := .value (.func 15), args := #[.tmp 354, .tmp 355], argTypes := #[42, 26] }, 4, "outright.go:216", #[⟨6, .data⟩, ⟨7, .data⟩, ⟨5, .chain⟩, ⟨5, .guard⟩], some (5, true)⟩ (fun K hK => ?_); go_simp
                    go_at_call 15
                    refine (HKE.out _ HL2.out).mono ?_
                    rintro e w3 ⟨rfl, hb3⟩
                    have HL3 := hid (below_on HL2.out hb3)
                    clear hb3 HKE HL2
                    clear hH; refine hK.out _ _ (HC.out _ HL3.out) (fun hH => ?_)
                    clear hK K; (try simp only [pua, puz, pus])
                    refine tk 9 ⟨some 357, .pick (.tmp 353) (.tmp 356) (.const (.bool false)), 4, "outright.go:216", #[⟨5, .data⟩, ⟨8, .data⟩], none⟩ hH ?_; simp only [pua, puz, pus]
                    refine tk 10 ⟨some 358, .move (.tmp 357), 4, "outright.go:216", #[⟨9, .data⟩, ⟨8, .chain⟩], none⟩ hH ?_; simp only [pua, puz, pus]
                    refine tk 11 ⟨some 359, .load 34 (.tmp 9), 34, "outright.go:216", #[⟨10, .guard⟩], some (10, true)⟩ hH ?_; simp only [pua, puz, pus]
                    refine tk 12 ⟨some 360, .move (.tmp 10), 35, "outright.go:216", #[⟨10, .guard⟩], some (10, true)⟩ hH ?_; simp only [pua, puz, pus]
                    refine tk 13 ⟨some 361, .load 34 (.tmp 4), 34, "outright.go:216", #[⟨10, .guard⟩], some (10, true)⟩ hH ?_; simp only [pua, puz, pus]
                    refine tk 14 ⟨some 362, .move (.tmp 2), 35, "outright.go:216", #[⟨10, .guard⟩], some (10, true)⟩ hH ?_; simp only [pua, puz, pus]
                    refine rd 15 ⟨some 363, .call { callee := .value (.func 16), args := #[.tmp 359, .tmp 360, .tmp 361, .tmp 362], argTypes := #[34, 35, 34, 35] }, 4, "outright.go:216", #[⟨11, .data⟩, ⟨12, .data⟩, ⟨13, .data⟩, ⟨14, .data⟩, ⟨10, .chain⟩, ⟨10, .guard⟩], some (10, true)⟩ (fun K hK => ?_); go_simp
                    go_at_call 16
                    refine (HSD.out _ HL3.out).mono ?_
                    rintro e w4 ⟨rfl, hb4⟩
                    have HL4 := hid (below_on HL3.out hb4)
                    clear hb4 HSD HL3
                    clear hH; refine hK.out _ _ (HC.out _ HL4.out) (fun hH => ?_)
                    clear hK K; (try simp only [pua, puz, pus])
                    refine tk 16 ⟨some 364, .pick (.tmp 358) (.tmp 363) (.const (.bool false)), 4, "outright.go:216", #[⟨10, .data⟩, ⟨15, .data⟩], none⟩ hH ?_; simp only [pua, puz, pus]
                    refine tk 17 ⟨some 365, .move (.tmp 364), 4, "outright.go:216", #[⟨16, .data⟩, ⟨15, .chain⟩], none⟩ hH ?_; simp only [pua, puz, pus]
                    refine tk 18 ⟨some 366, .move (.tmp 11), 42, "outright.go:216", #[⟨17, .guard⟩], some (17, true)⟩ hH ?_; simp only [pua, puz, pus]
                    refine tk 19 ⟨some 367, .makeInterface 42 (.tmp 366), 68, "outright.go:216", #[⟨18, .data⟩, ⟨17, .guard⟩], some (17, true)⟩ hH ?_; simp only [pua, puz, pus]
                    refine tk 20 ⟨some 368, .load 34 (.tmp 9), 34, "outright.go:216", #[⟨17, .guard⟩], some (17, true)⟩ hH ?_; simp only [pua, puz, pus]
                    refine tk 21 ⟨some 369, .move (.tmp 10), 35, "outright.go:216", #[⟨17, .guard⟩], some (17, true)⟩ hH ?_; simp only [pua, puz, pus]
                    refine tk 23 ⟨some 371, .load 40 (.tmp 12), 40, "outright.go:216", #[⟨17, .guard⟩], some (17, true)⟩ hH ?_; simp only [pua, puz, pus]
                    refine rd 22 ⟨some 370, .call { callee := .value (.func 7), args := #[.tmp 367, .tmp 368, .tmp 369], argTypes := #[68, 34, 35] }, 40, "outright.go:216", #[⟨19, .data⟩, ⟨20, .data⟩, ⟨21, .data⟩, ⟨17, .chain⟩, ⟨17, .guard⟩], some (17, true)⟩ (fun K hK => ?_); go_simp
                    go_at_call 7
                    refine (HRUN.out _ p _ _ (HA.out.below HL4.out).bl (HA.out.below HL4.out).code (HA.out.below HL4.out).vals (HA.out.below HL4.out).vc.vl).mono ?_
                    rintro e w5 ⟨t1', k1', t2', k2', t3', k3', rfl, hE5, hb5⟩
                    have HL5 := hid (below_on HL4.out hb5)
                    have HE5 := hid hE5.w
                    clear hb5 hE5 HL4
                    clear hH; refine hK.out _ _ (HC.out _ HL5.out) (fun hH => ?_)
                    clear hK K; (try simp only [pua, puz, pus])
                    refine rd 24 ⟨some 372, .call { callee := .value (.func 12), args := #[.tmp 370, .tmp 371], argTypes := #[40, 40] }, 4, "outright.go:216", #[⟨22, .data⟩, ⟨23, .data⟩, ⟨22, .chain⟩, ⟨17, .guard⟩], some (17, true)⟩ (fun K hK => ?_); go_simp
                    go_at_call 12
                    refine (HSM.out _ HL5.out _ _ _ _ _ _ HE5.out).mono ?_
                    rintro e w6 ⟨rfl, hb6⟩
                    have HL6 := hid (below_on HL5.out hb6)
                    clear hb6 HSM HL5 HE5
                    clear hH; refine hK.out _ _ (HC.out _ HL6.out) (fun hH => ?_)
                    clear hK K; (try simp only [pua, puz, pus])
                    refine tk 25 ⟨some 373, .pick (.tmp 365) (.tmp 372) (.const (.bool false)), 4, "outright.go:216", #[⟨17, .data⟩, ⟨24, .data⟩], none⟩ hH ?_; simp only [pua, puz, pus]
                    refine tk 26 ⟨some 374, .move (.tmp 373), 4, "outright.go:216", #[⟨25, .data⟩, ⟨24, .chain⟩], none⟩ hH ?_; simp only [pua, puz, pus]
                    refine rd 27 ⟨some 375, .call { callee := .value (.func 5), args := #[], argTypes := #[] }, 4, "outright.go:216", #[⟨26, .chain⟩, ⟨26, .guard⟩], some (26, true)⟩ (fun K hK => ?_); go_simp
                    go_at_call 5
                    refine (HKn.out _).mono ?_
                    rintro e w7 ⟨rfl, hb7⟩
                    have HL7 := hid (below_on HL6.out hb7)
                    clear hb7 HL6
                    clear hH; refine hK.out _ _ (HC.out _ HL7.out) (fun hH => ?_)
                    clear hK K; (try simp only [pua, puz, pus])
                    refine tk 28 ⟨some 376, .pick (.tmp 374) (.tmp 375) (.const (.bool false)), 4, "outright.go:216", #[⟨26, .data⟩, ⟨27, .data⟩], none⟩ hH ?_; simp only [pua, puz, pus]
                    refine tk 29 ⟨some 6, .assign (.tmp 376), 4, "outright.go:216", #[⟨28, .data⟩, ⟨27, .chain⟩, ⟨0, .phase⟩, ⟨1, .phase⟩, ⟨2, .phase⟩, ⟨3, .phase⟩, ⟨4, .phase⟩, ⟨5, .phase⟩, ⟨6, .phase⟩, ⟨7, .phase⟩, ⟨8, .phase⟩, ⟨9, .phase⟩, ⟨10, .phase⟩, ⟨11, .phase⟩, ⟨12, .phase⟩, ⟨13, .phase⟩, ⟨14, .phase⟩, ⟨15, .phase⟩, ⟨16, .phase⟩, ⟨17, .phase⟩, ⟨18, .phase⟩, ⟨19, .phase⟩, ⟨20, .phase⟩, ⟨21, .phase⟩, ⟨22, .phase⟩, ⟨23, .phase⟩, ⟨24, .phase⟩, ⟨25, .phase⟩, ⟨26, .phase⟩, ⟨27, .phase⟩, ⟨28, .phase⟩], none⟩ hH ?_; simp only [pua, puz, pus]
                    refine wpAnyH_done (by kernel_rfl) ?_ _
                    clear hH
                    go_wp2_with fail
                    go_ret
                    exact ⟨rfl, (HA.out.below HL7.out).bl⟩
end Go.Proofs.YthcoigbkdbkojabGreat
