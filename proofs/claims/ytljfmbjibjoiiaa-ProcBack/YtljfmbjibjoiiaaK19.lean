import Derived.Test.YtljfmbjibjoiiaaK18
import Derived.ProofKit
import Derived.OpenShut
import Derived.Deep.Slices
import Derived.Test.YtljfmbjibjoiiaaK15
import Derived.Test.YtljfmbjibjoiiaaK04
import Derived.Deep.Strs
import Derived.ShutString
import Derived.ChangeOld
namespace Go.Proofs.Ytljfmbjibjoiiaa
open Go.RowKit Go.Lib

set_option maxRecDepth 100000 in
set_option maxHeartbeats 8000000 in
theorem back_ok (nm : ByteArray) (ar : Int) (S : Value) (xs : List Ins) (x : Ins) (i : Int) (w : World) (h : Rf w 8 S xs.length (xs.flatMap Ins.cells)) (hi : ∀ x ∈ xs, InsOk x) (hx : InsOk x) (hl : (xs.length : Int) ≤ 65536) (hE : (procChk nm ar xs).2 = 0) :
    Calls Try.prog 6 #[.agg #[.string nm, .int .i64 ar, S], x.val, .int .i64 i] w fun x w' => x = .returned (.bool true) ∧ Below w.heap.size w w' := by
  obtain ⟨E1, E, hR⟩ : ∃ R1 R2, procChk nm ar xs = (R1, R2) := ⟨_, _, rfl⟩
  have hdec := dec_procB nm ar xs hE hi
  have hoct := procB_oct nm ar xs hE hi
  have hbl := procB_len nm ar xs hE hi
  have HC := hid (fun W hW => pcheck_any nm ar S xs W hW (by omega))
  have HE := hid (fun W hW => pencode_any nm ar S xs W hW (by omega) hi)
  obtain ⟨bs, hbs⟩ : ∃ bs, bs = procB nm ar xs := ⟨_, rfl⟩
  rw [← hbs] at hdec hoct hbl
  unfold PEnc at HE
  rw [hR] at HC HE hE
  rw [← hbs] at HE
  dsimp only at HC HE hE
  subst hE
  have HD := hid (fun v W hW => pdecode_any v bs W hW hoct (by omega))
  rw [hdec] at HD
  unfold DPost at HD
  dsimp only at HD
  rw [mkStr_strBs] at HD
  have HH := hid (code_of_rf h)
  have HRF := hid h
  have HBS := hid hbs
  have HR := hid hR
  have HI := hid (And.intro hi hx)
  obtain ⟨ao, cap, rfl, _, _⟩ := h.shape
  have H0 := hid (bst_start w nm ar (.slice ao xs.length cap) x)
  unfold Ins.val
  clear h hi hx hR hdec hoct hbs
  go_enter Try.func6, Try.ntmps6
  go_upto_region 12 with (first
    | (go_at_call 10
       refine (HC.out _ (HH.out.below H0.out.hb)).mono ?_
       rintro e w1 ⟨rfl, hb1⟩
       have H1 := hid (H0.out.below hb1)
       obtain ⟨p0, p1', p2', -⟩ := vfacts H1.out.r0
       clear hb1)
    | (go_at_call 14
       refine (HE.out _ (HH.out.below H1.out.hb)).mono ?_
       rintro e w2 (⟨h2, -⟩ | ⟨-, g2, rfl, ho2, hg2, hb2⟩)
       · exact absurd rfl h2
       have H2 := hid (And.intro (H1.out.below hb2) ho2)
       obtain ⟨p0, p1', p2', -⟩ := vfacts H2.out.1.r0
       clear hb2 hg2 ho2)
    | (go_at_call 17
       refine (HD.out _ _ (sl_of_owns (H2.out.2.owns (B := 0) (Nat.zero_le _) (by unfold maxLen; omega)))).mono ?_
       rintro e w3 ⟨hb3, cb, rfl, hcb, hck, hco⟩
       have H3 := hid (And.intro (H2.out.1.below hb3) (And.intro (blk_of hb3 H2.out.2 (lt_of H2.out.2)) (dst_code hco)))
       obtain ⟨p0, p1', p2', -⟩ := vfacts H3.out.1.r0
       have k3 := lt_of H3.out.1.r0
       clear hb3 hcb hck hco)
    | (go_at_call 19
       refine (same_any nm ar _ xs nm ar _ xs _ (HH.out.below (below_on H3.out.1.hb (below1 w3 _))) (H3.out.2.2.below (below1 w3 _)) (by omega)).mono ?_
       rintro e w4 ⟨rfl, hb4⟩
       rw [show sameB nm ar xs nm ar xs = true by simp [sameB]]
       have H4 := hid (And.intro (H3.out.1.below (below_on (below1 w3 _) hb4)) (blk_of (below_on (below1 w3 _) hb4) H3.out.2.1 (lt_of H3.out.2.1)))
       obtain ⟨p0, p1', p2', -⟩ := vfacts H4.out.1.r0
       clear hb4))
  clear H0 H1 H2 H3 HC HD
  by_cases hnil : xs = []
  · subst hnil
    go_wp2_with (first
      | (go_at_call 13
         refine (known_any _).mono ?_
         rintro e w5 ⟨rfl, hb5⟩
         have H5 := hid (below_on H4.out.1.hb hb5)
         clear hb5))
    go_ret
    exact ⟨rfl, H5.out⟩
  have hpos : 0 < xs.length := List.length_pos_iff.2 hnil
  have hpos' : (0 : Int) < (xs.length : Int) := by omega
  have hz0 : ((xs.length : Int) == 0) = false := by simp; exact hnil
  have htb : -(xs.length : Int) < i.tmod xs.length ∧ i.tmod xs.length < xs.length := by
    have h1 : (i.tmod xs.length).natAbs < xs.length := by
      rw [Int.natAbs_tmod]
      exact Nat.mod_lt _ hpos
    omega
  have HTB := hid htb
  clear htb hnil
  by_cases hneg : i.tmod xs.length < 0
  · obtain ⟨cN, hwr, hcN⟩ : ∃ c : Nat, wrap64 (i.tmod xs.length + xs.length) = c ∧ c < xs.length := by
      have := HTB.out
      refine ⟨(i.tmod xs.length + xs.length).toNat, ?_, by omega⟩
      unfold wrap64
      omega
    have HWR := hid hwr
    clear hwr
    go_upto_region 17 with fail
    rw [HWR.out]
    clear hneg
    obtain ⟨y, hy⟩ : ∃ y, xs[cN]? = some y := ⟨_, List.getElem?_eq_getElem hcN⟩
    obtain ⟨b, off, hao, hat⟩ : ∃ b off, ao = some ⟨b, off, none⟩ ∧ ∀ (j : Nat) (z : Ins), xs[j]? = some z → InsAt w b (off + j * 8) z := by
      obtain ⟨ao', cap', e4, _, hq⟩ := HH.out
      injection e4 with e4 _ _
      obtain ⟨b, off, e5, hat⟩ := hq (by intro e; rw [e] at hcN; simp at hcN)
      exact ⟨b, off, by rw [e4, e5], hat⟩
    have hat := hat cN y hy
    subst hao
    have HY := hid (And.intro hy hat)
    have HTW := hid (fun W hW => twin_any nm ar (.slice (some ⟨b, off, none⟩) xs.length cap) xs W hW hl)
    unfold TwPost at HTW
    clear hy hat
    go_upto_region 19 with (first
      | (go_at_call 9
         refine (HTW.out _ (HRF.out.below H4.out.1.hb)).mono ?_
         rintro e w5 ⟨g, c5, cur, rfl, hc5, hg5, hblk5, hco5, hb5⟩
         have H5 := hid (And.intro (H4.out.1.below hb5) (And.intro (blk_of hb5 H4.out.2 (lt_of H4.out.2)) (And.intro (tw_at hg5 hblk5 hco5 hb5 H4.out.2) (And.intro hc5 (And.intro hblk5 (And.intro hg5 (lt_of H4.out.1.r1)))))))
         obtain ⟨x0, x1, x2, x3, x4, x5, x6, x7, -⟩ := vfacts8 H5.out.1.r1
         obtain ⟨y0, y1, y2, y3, y4, y5, y6, y7⟩ := H5.out.2.2.1.1 cN y HY.out.1
         have gz : ∀ q, w5.frozen? ⟨g, q, none⟩ = false := fun q => by simp [World.frozen?, hblk5]
         have kg := lt_of hblk5
         have kr := lt_of H5.out.1.r1
         have hcc : (cN : Int) < (xs.length : Int) := by omega
         clear hc5 hg5 hblk5 hco5 hb5))
    refine cutG (fun W => Bk2 w W nm ar (.slice (some ⟨b, off, none⟩) xs.length cap) x g2 bs (.slice (some ⟨g, 0, none⟩) xs.length c5) (xs.set cN x) w5.heap.size) (bk_world H5.out hcN) ?_
    intro W0 H6
    have H6 := hid H6
    have hy6 := HY.out.2.same (H6.out.st.hb.block b HY.out.2.lt)
    obtain ⟨y0, y1, y2, y3, y4, y5, y6, y7⟩ := hy6
    obtain ⟨p0, p1', p2', -⟩ := vfacts H6.out.st.r0
    obtain ⟨x0, x1, x2, x3, x4, x5, x6, x7, -⟩ := vfacts8 H6.out.st.r1
    obtain ⟨t0, t1, t2, -⟩ := vfacts H6.out.t
    have HS2 : Hid (∀ z ∈ xs.set cN x, InsOk z) := hid (fun z hz => (List.mem_or_eq_of_mem_set hz).elim (HI.out.1 z) (fun e => e ▸ HI.out.2))
    have HE2 := hid (fun W hW => pencode_any nm ar (.slice (some ⟨g, 0, none⟩) xs.length c5) (xs.set cN x) W hW (by rw [List.length_set]; omega) HS2.out)
    unfold PEnc at HE2
    obtain ⟨F1, F2, hF⟩ : ∃ R1 R2, procChk nm ar (xs.set cN x) = (R1, R2) := ⟨_, _, rfl⟩
    rw [hF] at HE2
    dsimp only at HE2
    have HF := hid hF
    clear H5 hF
    by_cases hF0 : F2 = 0
    · subst hF0
      have HE3 := hid (set_same nm ar xs x y cN (by rw [HR.out]) HI.out.1 HI.out.2 HY.out.1 (by rw [HF.out]))
      obtain ⟨cs, hcs⟩ : ∃ cs, cs = procB nm ar (xs.set cN x) := ⟨_, rfl⟩
      have hcl := procB_len nm ar (xs.set cN x) (by rw [HF.out]) HS2.out
      rw [← hcs] at HE2 hcl HE3
      rw [← HBS.out] at HE3
      have heq := ins_eql x y
      unfold Ins.val at heq
      rw [← HE3.out] at heq
      clear hcs
      go_wp2_with (first
        | (go_at_call 14
           refine (HE2.out _ H6.out.co).mono ?_
           rintro e w7 (⟨h7, -⟩ | ⟨-, g7, rfl, ho7, hg7, hb7⟩)
           · exact absurd rfl h7
           have H7 := hid (And.intro (H6.out.st.below hb7) (And.intro (blk_of hb7 H6.out.ow (lt_of H6.out.ow)) ho7))
           have hy7 := HY.out.2.same (H7.out.1.hb.block b HY.out.2.lt)
           obtain ⟨y0, y1, y2, y3, y4, y5, y6, y7⟩ := hy7
           obtain ⟨p0, p1', p2', -⟩ := vfacts H7.out.1.r0
           obtain ⟨x0, x1, x2, x3, x4, x5, x6, x7, -⟩ := vfacts8 H7.out.1.r1
           clear hb7 ho7 hg7))
      have hsb := sl_of_owns ((show Own w7 g2 bs from H7.out.2.1).owns (B := 0) (Nat.zero_le _) (by unfold maxLen; omega))
      have hsc := sl_of_owns ((show Own w7 g7 cs from H7.out.2.2).owns (B := 0) (Nat.zero_le _) (by unfold maxLen; omega))
      have HSB := hid (And.intro hsb hsc)
      obtain ⟨r, hr⟩ : ∃ r, decide (bs = cs) = r := ⟨_, rfl⟩
      have HB := hid (fun W ha hb => bytes_any (.slice (some ⟨g2, 0, none⟩) bs.length bs.length) (.slice (some ⟨g7, 0, none⟩) cs.length cs.length) bs cs W ha hb (by omega))
      rw [hr] at HB heq
      clear hsb hsc hr
      go_region_held (fun wx => (wx.cell? ⟨b, off + cN * 8, none⟩ = some (.int .i64 y.op) ∧ wx.cell? ⟨b, off + cN * 8 + 1, none⟩ = some (.int .i64 y.a) ∧ wx.cell? ⟨b, off + cN * 8 + 2, none⟩ = some (.int .i64 y.b) ∧ wx.cell? ⟨b, off + cN * 8 + 3, none⟩ = some (.int .i64 y.c) ∧ wx.cell? ⟨b, off + cN * 8 + 4, none⟩ = some (.int .i64 y.n) ∧ wx.cell? ⟨b, off + cN * 8 + 5, none⟩ = some (.int .i64 y.k) ∧ wx.cell? ⟨b, off + cN * 8 + 6, none⟩ = some (.int .i64 y.i) ∧ wx.cell? ⟨b, off + cN * 8 + 7, none⟩ = some (.string y.t)) ∧ (wx.cell? ⟨w.heap.size + 1, 0, none⟩ = some (.int .i64 x.op) ∧ wx.cell? ⟨w.heap.size + 1, 1, none⟩ = some (.int .i64 x.a) ∧ wx.cell? ⟨w.heap.size + 1, 2, none⟩ = some (.int .i64 x.b) ∧ wx.cell? ⟨w.heap.size + 1, 3, none⟩ = some (.int .i64 x.c) ∧ wx.cell? ⟨w.heap.size + 1, 4, none⟩ = some (.int .i64 x.n) ∧ wx.cell? ⟨w.heap.size + 1, 5, none⟩ = some (.int .i64 x.k) ∧ wx.cell? ⟨w.heap.size + 1, 6, none⟩ = some (.int .i64 x.i) ∧ wx.cell? ⟨w.heap.size + 1, 7, none⟩ = some (.string x.t)) ∧ wx.cell? ⟨w.heap.size, 2, none⟩ = some (.slice (some ⟨b, off, none⟩) xs.length cap)) (go_keep) (first
        | (go_at_call 16
           refine (HB.out w7.drew HSB.out.1 HSB.out.2).mono ?_
           rintro e w8 ⟨hd8', rfl⟩
           have hb8' := hd8'.below
           have hb8 : Below w7.heap.size w7 w8 := ⟨hb8'.os, hb8'.tape, hb8'.output, hb8'.size, hb8'.block⟩
           have q0 := (hb8.cell (World.block_lt_of_cell? _ _ y0)).trans y0
           have q1 := (hb8.cell (World.block_lt_of_cell? _ _ y1)).trans y1
           have q2 := (hb8.cell (World.block_lt_of_cell? _ _ y2)).trans y2
           have q3 := (hb8.cell (World.block_lt_of_cell? _ _ y3)).trans y3
           have q4 := (hb8.cell (World.block_lt_of_cell? _ _ y4)).trans y4
           have q5 := (hb8.cell (World.block_lt_of_cell? _ _ y5)).trans y5
           have q6 := (hb8.cell (World.block_lt_of_cell? _ _ y6)).trans y6
           have q7 := (hb8.cell (World.block_lt_of_cell? _ _ y7)).trans y7
           have s0 := (hb8.cell (World.block_lt_of_cell? _ _ x0)).trans x0
           have s1 := (hb8.cell (World.block_lt_of_cell? _ _ x1)).trans x1
           have s2 := (hb8.cell (World.block_lt_of_cell? _ _ x2)).trans x2
           have s3 := (hb8.cell (World.block_lt_of_cell? _ _ x3)).trans x3
           have s4 := (hb8.cell (World.block_lt_of_cell? _ _ x4)).trans x4
           have s5 := (hb8.cell (World.block_lt_of_cell? _ _ x5)).trans x5
           have s6 := (hb8.cell (World.block_lt_of_cell? _ _ x6)).trans x6
           have s7 := (hb8.cell (World.block_lt_of_cell? _ _ x7)).trans x7
           have r2 := (hb8.cell (World.block_lt_of_cell? _ _ p2')).trans p2'
           have H8 := hid (below_on H7.out.1.hb hb8)
           clear hb8 hb8' hd8')
        | (go_at_call 13
           refine (known_any _).mono ?_
           rintro e w9 ⟨rfl, hb9⟩
           have q0 := (hb9.cell (World.block_lt_of_cell? _ _ q0)).trans q0
           have q1 := (hb9.cell (World.block_lt_of_cell? _ _ q1)).trans q1
           have q2 := (hb9.cell (World.block_lt_of_cell? _ _ q2)).trans q2
           have q3 := (hb9.cell (World.block_lt_of_cell? _ _ q3)).trans q3
           have q4 := (hb9.cell (World.block_lt_of_cell? _ _ q4)).trans q4
           have q5 := (hb9.cell (World.block_lt_of_cell? _ _ q5)).trans q5
           have q6 := (hb9.cell (World.block_lt_of_cell? _ _ q6)).trans q6
           have q7 := (hb9.cell (World.block_lt_of_cell? _ _ q7)).trans q7
           have s0 := (hb9.cell (World.block_lt_of_cell? _ _ s0)).trans s0
           have s1 := (hb9.cell (World.block_lt_of_cell? _ _ s1)).trans s1
           have s2 := (hb9.cell (World.block_lt_of_cell? _ _ s2)).trans s2
           have s3 := (hb9.cell (World.block_lt_of_cell? _ _ s3)).trans s3
           have s4 := (hb9.cell (World.block_lt_of_cell? _ _ s4)).trans s4
           have s5 := (hb9.cell (World.block_lt_of_cell? _ _ s5)).trans s5
           have s6 := (hb9.cell (World.block_lt_of_cell? _ _ s6)).trans s6
           have s7 := (hb9.cell (World.block_lt_of_cell? _ _ s7)).trans s7
           have r2 := (hb9.cell (World.block_lt_of_cell? _ _ r2)).trans r2
           have H9 := hid (below_on H8.out hb9)
           clear hb9))
      go_wp2
      go_ret
      exact ⟨rfl, H9.out⟩
    · have hF2 : (F2 == 0) = false := by simpa using hF0
      have HF0 := hid hF0
      clear hF0
      go_wp2_with (first
        | (go_at_call 14
           refine (HE2.out _ H6.out.co).mono ?_
           rintro e w7 (⟨-, rfl, hb7⟩ | ⟨h7, -⟩)
           rotate_left
           · exact absurd h7 HF0.out
           have H7 := hid (H6.out.st.below hb7)
           clear hb7))
      refine reg20 _ _ _ F2 hF2 (by simp) rfl _ (fun w8 hb8 => ?_)
      have H8 := hid (below_on H7.out.hb hb8)
      clear hb8
      simp only [a16, putL, L11, List.foldl_cons, List.foldl_nil, o3, o4, o5, o6, o7, o8, o9, o10, o11, o12, o13, a3, Act.put, List.setIfInBounds_toArray, List.set_cons_succ, List.set_cons_zero]
      go_wp2
      go_ret
      exact ⟨rfl, H8.out⟩
  · obtain ⟨cN, hwr, hcN⟩ : ∃ c : Nat, i.tmod xs.length = c ∧ c < xs.length := by
      have := HTB.out
      exact ⟨(i.tmod xs.length).toNat, by omega, by omega⟩
    have HWR := hid hwr
    clear hwr
    go_upto_region 17 with fail
    rw [HWR.out]
    clear hneg
    obtain ⟨y, hy⟩ : ∃ y, xs[cN]? = some y := ⟨_, List.getElem?_eq_getElem hcN⟩
    obtain ⟨b, off, hao, hat⟩ : ∃ b off, ao = some ⟨b, off, none⟩ ∧ ∀ (j : Nat) (z : Ins), xs[j]? = some z → InsAt w b (off + j * 8) z := by
      obtain ⟨ao', cap', e4, _, hq⟩ := HH.out
      injection e4 with e4 _ _
      obtain ⟨b, off, e5, hat⟩ := hq (by intro e; rw [e] at hcN; simp at hcN)
      exact ⟨b, off, by rw [e4, e5], hat⟩
    have hat := hat cN y hy
    subst hao
    have HY := hid (And.intro hy hat)
    have HTW := hid (fun W hW => twin_any nm ar (.slice (some ⟨b, off, none⟩) xs.length cap) xs W hW hl)
    unfold TwPost at HTW
    clear hy hat
    go_upto_region 19 with (first
      | (go_at_call 9
         refine (HTW.out _ (HRF.out.below H4.out.1.hb)).mono ?_
         rintro e w5 ⟨g, c5, cur, rfl, hc5, hg5, hblk5, hco5, hb5⟩
         have H5 := hid (And.intro (H4.out.1.below hb5) (And.intro (blk_of hb5 H4.out.2 (lt_of H4.out.2)) (And.intro (tw_at hg5 hblk5 hco5 hb5 H4.out.2) (And.intro hc5 (And.intro hblk5 (And.intro hg5 (lt_of H4.out.1.r1)))))))
         obtain ⟨x0, x1, x2, x3, x4, x5, x6, x7, -⟩ := vfacts8 H5.out.1.r1
         obtain ⟨y0, y1, y2, y3, y4, y5, y6, y7⟩ := H5.out.2.2.1.1 cN y HY.out.1
         have gz : ∀ q, w5.frozen? ⟨g, q, none⟩ = false := fun q => by simp [World.frozen?, hblk5]
         have kg := lt_of hblk5
         have kr := lt_of H5.out.1.r1
         have hcc : (cN : Int) < (xs.length : Int) := by omega
         clear hc5 hg5 hblk5 hco5 hb5))
    refine cutG (fun W => Bk2 w W nm ar (.slice (some ⟨b, off, none⟩) xs.length cap) x g2 bs (.slice (some ⟨g, 0, none⟩) xs.length c5) (xs.set cN x) w5.heap.size) (bk_world H5.out hcN) ?_
    intro W0 H6
    have H6 := hid H6
    have hy6 := HY.out.2.same (H6.out.st.hb.block b HY.out.2.lt)
    obtain ⟨y0, y1, y2, y3, y4, y5, y6, y7⟩ := hy6
    obtain ⟨p0, p1', p2', -⟩ := vfacts H6.out.st.r0
    obtain ⟨x0, x1, x2, x3, x4, x5, x6, x7, -⟩ := vfacts8 H6.out.st.r1
    obtain ⟨t0, t1, t2, -⟩ := vfacts H6.out.t
    have HS2 : Hid (∀ z ∈ xs.set cN x, InsOk z) := hid (fun z hz => (List.mem_or_eq_of_mem_set hz).elim (HI.out.1 z) (fun e => e ▸ HI.out.2))
    have HE2 := hid (fun W hW => pencode_any nm ar (.slice (some ⟨g, 0, none⟩) xs.length c5) (xs.set cN x) W hW (by rw [List.length_set]; omega) HS2.out)
    unfold PEnc at HE2
    obtain ⟨F1, F2, hF⟩ : ∃ R1 R2, procChk nm ar (xs.set cN x) = (R1, R2) := ⟨_, _, rfl⟩
    rw [hF] at HE2
    dsimp only at HE2
    have HF := hid hF
    clear H5 hF
    by_cases hF0 : F2 = 0
    · subst hF0
      have HE3 := hid (set_same nm ar xs x y cN (by rw [HR.out]) HI.out.1 HI.out.2 HY.out.1 (by rw [HF.out]))
      obtain ⟨cs, hcs⟩ : ∃ cs, cs = procB nm ar (xs.set cN x) := ⟨_, rfl⟩
      have hcl := procB_len nm ar (xs.set cN x) (by rw [HF.out]) HS2.out
      rw [← hcs] at HE2 hcl HE3
      rw [← HBS.out] at HE3
      have heq := ins_eql x y
      unfold Ins.val at heq
      rw [← HE3.out] at heq
      clear hcs
      go_wp2_with (first
        | (go_at_call 14
           refine (HE2.out _ H6.out.co).mono ?_
           rintro e w7 (⟨h7, -⟩ | ⟨-, g7, rfl, ho7, hg7, hb7⟩)
           · exact absurd rfl h7
           have H7 := hid (And.intro (H6.out.st.below hb7) (And.intro (blk_of hb7 H6.out.ow (lt_of H6.out.ow)) ho7))
           have hy7 := HY.out.2.same (H7.out.1.hb.block b HY.out.2.lt)
           obtain ⟨y0, y1, y2, y3, y4, y5, y6, y7⟩ := hy7
           obtain ⟨p0, p1', p2', -⟩ := vfacts H7.out.1.r0
           obtain ⟨x0, x1, x2, x3, x4, x5, x6, x7, -⟩ := vfacts8 H7.out.1.r1
           clear hb7 ho7 hg7))
      have hsb := sl_of_owns ((show Own w7 g2 bs from H7.out.2.1).owns (B := 0) (Nat.zero_le _) (by unfold maxLen; omega))
      have hsc := sl_of_owns ((show Own w7 g7 cs from H7.out.2.2).owns (B := 0) (Nat.zero_le _) (by unfold maxLen; omega))
      have HSB := hid (And.intro hsb hsc)
      obtain ⟨r, hr⟩ : ∃ r, decide (bs = cs) = r := ⟨_, rfl⟩
      have HB := hid (fun W ha hb => bytes_any (.slice (some ⟨g2, 0, none⟩) bs.length bs.length) (.slice (some ⟨g7, 0, none⟩) cs.length cs.length) bs cs W ha hb (by omega))
      rw [hr] at HB heq
      clear hsb hsc hr
      go_region_held (fun wx => (wx.cell? ⟨b, off + cN * 8, none⟩ = some (.int .i64 y.op) ∧ wx.cell? ⟨b, off + cN * 8 + 1, none⟩ = some (.int .i64 y.a) ∧ wx.cell? ⟨b, off + cN * 8 + 2, none⟩ = some (.int .i64 y.b) ∧ wx.cell? ⟨b, off + cN * 8 + 3, none⟩ = some (.int .i64 y.c) ∧ wx.cell? ⟨b, off + cN * 8 + 4, none⟩ = some (.int .i64 y.n) ∧ wx.cell? ⟨b, off + cN * 8 + 5, none⟩ = some (.int .i64 y.k) ∧ wx.cell? ⟨b, off + cN * 8 + 6, none⟩ = some (.int .i64 y.i) ∧ wx.cell? ⟨b, off + cN * 8 + 7, none⟩ = some (.string y.t)) ∧ (wx.cell? ⟨w.heap.size + 1, 0, none⟩ = some (.int .i64 x.op) ∧ wx.cell? ⟨w.heap.size + 1, 1, none⟩ = some (.int .i64 x.a) ∧ wx.cell? ⟨w.heap.size + 1, 2, none⟩ = some (.int .i64 x.b) ∧ wx.cell? ⟨w.heap.size + 1, 3, none⟩ = some (.int .i64 x.c) ∧ wx.cell? ⟨w.heap.size + 1, 4, none⟩ = some (.int .i64 x.n) ∧ wx.cell? ⟨w.heap.size + 1, 5, none⟩ = some (.int .i64 x.k) ∧ wx.cell? ⟨w.heap.size + 1, 6, none⟩ = some (.int .i64 x.i) ∧ wx.cell? ⟨w.heap.size + 1, 7, none⟩ = some (.string x.t)) ∧ wx.cell? ⟨w.heap.size, 2, none⟩ = some (.slice (some ⟨b, off, none⟩) xs.length cap)) (go_keep) (first
        | (go_at_call 16
           refine (HB.out w7.drew HSB.out.1 HSB.out.2).mono ?_
           rintro e w8 ⟨hd8', rfl⟩
           have hb8' := hd8'.below
           have hb8 : Below w7.heap.size w7 w8 := ⟨hb8'.os, hb8'.tape, hb8'.output, hb8'.size, hb8'.block⟩
           have q0 := (hb8.cell (World.block_lt_of_cell? _ _ y0)).trans y0
           have q1 := (hb8.cell (World.block_lt_of_cell? _ _ y1)).trans y1
           have q2 := (hb8.cell (World.block_lt_of_cell? _ _ y2)).trans y2
           have q3 := (hb8.cell (World.block_lt_of_cell? _ _ y3)).trans y3
           have q4 := (hb8.cell (World.block_lt_of_cell? _ _ y4)).trans y4
           have q5 := (hb8.cell (World.block_lt_of_cell? _ _ y5)).trans y5
           have q6 := (hb8.cell (World.block_lt_of_cell? _ _ y6)).trans y6
           have q7 := (hb8.cell (World.block_lt_of_cell? _ _ y7)).trans y7
           have s0 := (hb8.cell (World.block_lt_of_cell? _ _ x0)).trans x0
           have s1 := (hb8.cell (World.block_lt_of_cell? _ _ x1)).trans x1
           have s2 := (hb8.cell (World.block_lt_of_cell? _ _ x2)).trans x2
           have s3 := (hb8.cell (World.block_lt_of_cell? _ _ x3)).trans x3
           have s4 := (hb8.cell (World.block_lt_of_cell? _ _ x4)).trans x4
           have s5 := (hb8.cell (World.block_lt_of_cell? _ _ x5)).trans x5
           have s6 := (hb8.cell (World.block_lt_of_cell? _ _ x6)).trans x6
           have s7 := (hb8.cell (World.block_lt_of_cell? _ _ x7)).trans x7
           have r2 := (hb8.cell (World.block_lt_of_cell? _ _ p2')).trans p2'
           have H8 := hid (below_on H7.out.1.hb hb8)
           clear hb8 hb8' hd8')
        | (go_at_call 13
           refine (known_any _).mono ?_
           rintro e w9 ⟨rfl, hb9⟩
           have q0 := (hb9.cell (World.block_lt_of_cell? _ _ q0)).trans q0
           have q1 := (hb9.cell (World.block_lt_of_cell? _ _ q1)).trans q1
           have q2 := (hb9.cell (World.block_lt_of_cell? _ _ q2)).trans q2
           have q3 := (hb9.cell (World.block_lt_of_cell? _ _ q3)).trans q3
           have q4 := (hb9.cell (World.block_lt_of_cell? _ _ q4)).trans q4
           have q5 := (hb9.cell (World.block_lt_of_cell? _ _ q5)).trans q5
           have q6 := (hb9.cell (World.block_lt_of_cell? _ _ q6)).trans q6
           have q7 := (hb9.cell (World.block_lt_of_cell? _ _ q7)).trans q7
           have s0 := (hb9.cell (World.block_lt_of_cell? _ _ s0)).trans s0
           have s1 := (hb9.cell (World.block_lt_of_cell? _ _ s1)).trans s1
           have s2 := (hb9.cell (World.block_lt_of_cell? _ _ s2)).trans s2
           have s3 := (hb9.cell (World.block_lt_of_cell? _ _ s3)).trans s3
           have s4 := (hb9.cell (World.block_lt_of_cell? _ _ s4)).trans s4
           have s5 := (hb9.cell (World.block_lt_of_cell? _ _ s5)).trans s5
           have s6 := (hb9.cell (World.block_lt_of_cell? _ _ s6)).trans s6
           have s7 := (hb9.cell (World.block_lt_of_cell? _ _ s7)).trans s7
           have r2 := (hb9.cell (World.block_lt_of_cell? _ _ r2)).trans r2
           have H9 := hid (below_on H8.out hb9)
           clear hb9))
      go_wp2
      go_ret
      exact ⟨rfl, H9.out⟩
    · have hF2 : (F2 == 0) = false := by simpa using hF0
      have HF0 := hid hF0
      clear hF0
      go_wp2_with (first
        | (go_at_call 14
           refine (HE2.out _ H6.out.co).mono ?_
           rintro e w7 (⟨-, rfl, hb7⟩ | ⟨h7, -⟩)
           rotate_left
           · exact absurd h7 HF0.out
           have H7 := hid (H6.out.st.below hb7)
           clear hb7))
      refine reg20 _ _ _ F2 hF2 (by simp) rfl _ (fun w8 hb8 => ?_)
      have H8 := hid (below_on H7.out.hb hb8)
      clear hb8
      simp only [a16, putL, L11, List.foldl_cons, List.foldl_nil, o3, o4, o5, o6, o7, o8, o9, o10, o11, o12, o13, a3, Act.put, List.setIfInBounds_toArray, List.set_cons_succ, List.set_cons_zero]
      go_wp2
      go_ret
      exact ⟨rfl, H8.out⟩

end Go.Proofs.Ytljfmbjibjoiiaa

namespace Go.Proofs.Ytljfmbjibjoiiaa
open Go.RowKit

theorem Try.cells5 : Try.prog.cellsOf 5 = 1 := by kernel_rfl

/-- An argument of bytes. -/
theorem bytes_of_trod {H : Type} {enc : TypeId × Value → H} {W : World} {base : Nat} {held : Bool} {ao : Option Addr} {len cap : Nat} {d : DataW H} {p : List MemPlace}
    (h : DataW.Trod enc Try.prog W base (fun _ => true) held 38 (.slice ao len cap) d p) : ∃ bs, Sn W (.slice ao len cap) bs ∧ Oct bs ∧ bs.length ≤ 9223372036854775807 := by
  obtain ⟨fuel, hf⟩ := h
  rcases Go.Deep.open_slice Try.underlying38 hf with ⟨hcs, _⟩ | ⟨a, len', cap', m, n, D, Pl, hcs, _, hl, hm, hmm, _, hx⟩
  · simp [Value.cells] at hcs
    obtain ⟨rfl, rfl, rfl⟩ := hcs
    exact ⟨[], sn_nil _, (fun x hx => nomatch hx), by simp⟩
  · simp [Value.cells] at hcs
    obtain ⟨rfl, rfl, rfl⟩ := hcs
    simp only [if_true] at hmm
    obtain rfl : cap = m := hmm.symm
    rw [Try.cells5] at hx
    have key : ∀ i, i < len → ∃ y : Int, (0 ≤ y ∧ y < 256) ∧ W.cell? ((a.add (i * 1)).add 0) = some (.int .u8 y) := by
      intro i hi
      obtain ⟨cs, h1, h2⟩ := hx i (by omega)
      obtain ⟨y, e0, _, w0⟩ := DataW.trod_int Try.underlying5 h2
      subst e0
      have b0 := bounds_u8 w0
      exact ⟨y, ⟨b0.1, by omega⟩, (World.cells?_some h1).2.2 0 (by omega)⟩
    obtain ⟨F, hF⟩ := Go.Deep.choose_lt key
    unfold maxLen at hm
    refine ⟨(List.range len).map F, ⟨⟨some a, cap, by simp, by simpa using hl, ?_⟩, .inr ⟨_, _, _, rfl⟩⟩, ?_, by simp; omega⟩
    · intro hne
      have hlen : 0 < len := by
        rcases Nat.eq_zero_or_pos len with h | h
        · subst h; simp at hne
        · exact h
      have h00 := (hF 0 hlen).2
      obtain ⟨b, off, rfl⟩ : ∃ b off, a = ⟨b, off, none⟩ := by
        obtain ⟨b, off, spot⟩ := a
        have hspot : spot = none := by simpa [Addr.add] using World.cell?_spot h00
        subst hspot
        exact ⟨b, off, rfl⟩
      refine ⟨b, off, rfl, ?_⟩
      intro j x hj
      rw [List.getElem?_map, Option.map_eq_some_iff] at hj
      obtain ⟨i, hi, rfl⟩ := hj
      have hij : i = j ∧ j < len := by
        rw [List.getElem?_eq_some_iff] at hi
        obtain ⟨q1, q2⟩ := hi
        simp at q1 q2
        exact ⟨q2.symm, q1⟩
      obtain ⟨rfl, hi2⟩ := hij
      have k := (hF i hi2).2
      rw [add_lit, add_lit] at k
      simpa using k
    · intro x hx2
      simp at hx2
      obtain ⟨i, hi, rfl⟩ := hx2
      exact (hF i hi).1

end Go.Proofs.Ytljfmbjibjoiiaa

namespace Go.Proofs.Ytljfmbjibjoiiaa
open Go.RowKit Go.WideShapes Go.ChangeAt Go.ChangeShapes

theorem Try.cells26 : Try.prog.cellsOf 26 = 3 := by kernel_rfl
theorem Try.cells28 : Try.prog.cellsOf 28 = 8 := by kernel_rfl
theorem Try.cells24 : Try.prog.cellsOf 24 = 3 := by kernel_rfl
theorem Try.cells22 : Try.prog.cellsOf 22 = 1 := by kernel_rfl
theorem Try.cells3 : Try.prog.cellsOf 3 = 1 := by kernel_rfl
theorem Try.cells2 : Try.prog.cellsOf 2 = 1 := by kernel_rfl
theorem Try.cells9 : Try.prog.cellsOf 9 = 1 := by kernel_rfl

set_option maxRecDepth 100000 in
theorem vl_of_trod {H : Type} {enc : TypeId × Value → H} {W : World} {base : Nat} {spare : Nat → Bool} {held : Bool} {fuel : Nat} {cs : List Value} {x : DataW H × List MemPlace}
    (h : DataW.trod enc Try.prog W base spare held fuel 26 cs = some x) : ∃ k i s, cs = [.int .i64 k, .int .i64 i, .string s] ∧ (-9223372036854775808 ≤ i ∧ i ≤ 9223372036854775807) ∧ s.size ≤ maxLen := by
  obtain ⟨xs, n, _, rfl, hl, hlen, hf⟩ := DataW.trod_struct Try.underlying26 h
  rw [Try.cells26] at hl
  match cs, hl, xs, hlen with
  | [c0, c1, c2], _, [y0, y1, y2], _ =>
    have f0 : DataW.trod enc Try.prog W base spare held n 3 (([c0, c1, c2].drop 0).take (Try.prog.cellsOf 3)) = some y0 := hf 0 _ rfl
    have f1 : DataW.trod enc Try.prog W base spare held n 2 (([c0, c1, c2].drop 1).take (Try.prog.cellsOf 2)) = some y1 := hf 1 _ rfl
    have f2 : DataW.trod enc Try.prog W base spare held n 9 (([c0, c1, c2].drop 2).take (Try.prog.cellsOf 9)) = some y2 := hf 2 _ rfl
    rw [Try.cells3] at f0
    rw [Try.cells2] at f1
    rw [Try.cells9] at f2
    obtain ⟨a0, e0, _, w0⟩ := DataW.trod_int Try.underlying3 (x := y0) (by simpa using f0)
    obtain ⟨a1, e1, _, w1⟩ := DataW.trod_int Try.underlying2 (x := y1) (by simpa using f1)
    obtain ⟨s, e2, _, w2⟩ := DataW.trod_string Try.underlying9 (x := y2) (by simpa using f2)
    simp at e0 e1 e2
    subst e0 e1 e2
    have b1 := bounds_i64 w1
    exact ⟨a0, a1, s, rfl, ⟨b1.1, by omega⟩, w2⟩

set_option maxRecDepth 100000 in
theorem ins_of_trod {H : Type} {enc : TypeId × Value → H} {W : World} {base : Nat} {spare : Nat → Bool} {held : Bool} {fuel : Nat} {cs : List Value} {x : DataW H × List MemPlace}
    (h : DataW.trod enc Try.prog W base spare held fuel 28 cs = some x) : ∃ y : Ins, InsOk y ∧ cs = y.cells := by
  obtain ⟨xs, n, _, rfl, hl, hlen, hf⟩ := DataW.trod_struct Try.underlying28 h
  rw [Try.cells28] at hl
  match cs, hl, xs, hlen with
  | [c0, c1, c2, c3, c4, c5, c6, c7], _, [y0, y1, y2, y3, y4, y5], _ =>
    have f0 : DataW.trod enc Try.prog W base spare held n 3 (([c0, c1, c2, c3, c4, c5, c6, c7].drop 0).take (Try.prog.cellsOf 3)) = some y0 := hf 0 _ rfl
    have f1 : DataW.trod enc Try.prog W base spare held n 3 (([c0, c1, c2, c3, c4, c5, c6, c7].drop 1).take (Try.prog.cellsOf 3)) = some y1 := hf 1 _ rfl
    have f2 : DataW.trod enc Try.prog W base spare held n 3 (([c0, c1, c2, c3, c4, c5, c6, c7].drop 2).take (Try.prog.cellsOf 3)) = some y2 := hf 2 _ rfl
    have f3 : DataW.trod enc Try.prog W base spare held n 3 (([c0, c1, c2, c3, c4, c5, c6, c7].drop 3).take (Try.prog.cellsOf 3)) = some y3 := hf 3 _ rfl
    have f4 : DataW.trod enc Try.prog W base spare held n 3 (([c0, c1, c2, c3, c4, c5, c6, c7].drop 4).take (Try.prog.cellsOf 3)) = some y4 := hf 4 _ rfl
    have f5 : DataW.trod enc Try.prog W base spare held n 26 (([c0, c1, c2, c3, c4, c5, c6, c7].drop 5).take (Try.prog.cellsOf 26)) = some y5 := hf 5 _ rfl
    rw [Try.cells3] at f0 f1 f2 f3 f4
    rw [Try.cells26] at f5
    obtain ⟨a0, e0, _, _⟩ := DataW.trod_int Try.underlying3 (x := y0) (by simpa using f0)
    obtain ⟨a1, e1, _, _⟩ := DataW.trod_int Try.underlying3 (x := y1) (by simpa using f1)
    obtain ⟨a2, e2, _, _⟩ := DataW.trod_int Try.underlying3 (x := y2) (by simpa using f2)
    obtain ⟨a3, e3, _, _⟩ := DataW.trod_int Try.underlying3 (x := y3) (by simpa using f3)
    obtain ⟨a4, e4, _, _⟩ := DataW.trod_int Try.underlying3 (x := y4) (by simpa using f4)
    obtain ⟨k, i, s, e5, hi, _⟩ := vl_of_trod f5
    simp at e0 e1 e2 e3 e4 e5
    obtain ⟨e5, e6, e7⟩ := e5
    subst e0 e1 e2 e3 e4 e5 e6 e7
    exact ⟨⟨a0, a1, a2, a3, a4, k, i, s⟩, ⟨hi.1, by have := hi.2; show i < 9223372036854775808; omega⟩, rfl⟩

instance : Inhabited Ins := ⟨stopI⟩

set_option maxRecDepth 100000 in
/-- A procedure as an argument. -/
theorem proc_of_trod {H : Type} {enc : TypeId × Value → H} {W : World} {base b2 : Nat} {held : Bool} {v : Value} {d : DataW H} {p : List MemPlace} (hv : Value.okWide Try.prog W .any b2 24 v)
    (h : DataW.Trod enc Try.prog W base (fun _ => true) held 24 v d p) : ∃ (nm : ByteArray) (ar : Int) (S : Value) (xs : List Ins), v = .agg #[.string nm, .int .i64 ar, S] ∧ Rf W 8 S xs.length (xs.flatMap Ins.cells) ∧ (∀ x ∈ xs, InsOk x) := by
  obtain ⟨⟨cs⟩, rfl, _⟩ := okWide_struct Try.underlying24 hv
  obtain ⟨fuel, hf0⟩ := h
  have hf0 : DataW.trod enc Try.prog W base (fun _ => true) held fuel 24 cs = some (d, p) := by simpa [Value.cells] using hf0
  obtain ⟨xs, n, _, hd, hl, hlen, hf⟩ := DataW.trod_struct Try.underlying24 hf0
  rw [Try.cells24] at hl
  match cs, hl, xs, hlen with
  | [c0, c1, c2], _, [y0, y1, y2], _ =>
    have f0 : DataW.trod enc Try.prog W base (fun _ => true) held n 9 (([c0, c1, c2].drop 0).take (Try.prog.cellsOf 9)) = some y0 := hf 0 _ rfl
    have f1 : DataW.trod enc Try.prog W base (fun _ => true) held n 3 (([c0, c1, c2].drop 1).take (Try.prog.cellsOf 3)) = some y1 := hf 1 _ rfl
    have f2 : DataW.trod enc Try.prog W base (fun _ => true) held n 22 (([c0, c1, c2].drop 2).take (Try.prog.cellsOf 22)) = some y2 := hf 2 _ rfl
    rw [Try.cells9] at f0
    rw [Try.cells3] at f1
    rw [Try.cells22] at f2
    obtain ⟨s, e0, _, _⟩ := DataW.trod_string Try.underlying9 (x := y0) (by simpa using f0)
    obtain ⟨a1, e1, _, _⟩ := DataW.trod_int Try.underlying3 (x := y1) (by simpa using f1)
    obtain ⟨S, ys, e2, hR, hO⟩ := rf_of_trod Ins.cells InsOk 8 ins_cells ins_one Try.underlying22 Try.cells28 (fun _ _ _ h => ins_of_trod h) f2
    simp at e0 e1 e2
    subst e0 e1 e2
    exact ⟨s, a1, _, ys, rfl, hR, hO⟩

set_option maxRecDepth 100000 in
/-- An instruction as an argument. -/
theorem instr_of_trod {H : Type} {enc : TypeId × Value → H} {W : World} {base b2 : Nat} {held : Bool} {v : Value} {d : DataW H} {p : List MemPlace} (hv : Value.okWide Try.prog W .any b2 28 v)
    (h : DataW.Trod enc Try.prog W base (fun _ => true) held 28 v d p) : ∃ x : Ins, v = x.val ∧ InsOk x := by
  obtain ⟨⟨cs⟩, rfl, _⟩ := okWide_struct Try.underlying28 hv
  obtain ⟨fuel, hf⟩ := h
  obtain ⟨x, h1, h2⟩ := ins_of_trod hf
  refine ⟨x, ?_, h1⟩
  have h4 : cs = x.cells := by simpa [Value.cells] using h2
  rw [h4]
  rfl

end Go.Proofs.Ytljfmbjibjoiiaa

namespace Go.Proofs.Ytljfmbjibjoiiaa
open Go.ChangeShapes Go.WideShapes Go.ChangeAt Go.RowKit

set_option maxRecDepth 100000 in
set_option maxHeartbeats 1600000 in
theorem back_any (nm : ByteArray) (ar : Int) (S : Value) (xs : List Ins) (x : Ins) (i : Int) (w : World) (h : Rf w 8 S xs.length (xs.flatMap Ins.cells)) (hi : ∀ x ∈ xs, InsOk x) (hx : InsOk x) :
    Calls Try.prog 6 #[.agg #[.string nm, .int .i64 ar, S], x.val, .int .i64 i] w fun x w' => x = .returned (.bool true) ∧ Below w.heap.size w w' := by
  by_cases hl : (xs.length : Int) ≤ 65536
  · by_cases hE : (procChk nm ar xs).2 = 0
    · exact back_ok nm ar S xs x i w h hi hx hl hE
    · exact back_err nm ar S xs x i w h hi hl hE
  · have hl3 : (65536 : Int) < (xs.length : Int) := by omega
    obtain ⟨ao, cap, rfl, _, _⟩ := h.shape
    have H0 := hid (bst_start w nm ar (.slice ao xs.length cap) x)
    unfold Ins.val
    clear h hi hx
    go_enter Try.func6, Try.ntmps6
    go_wp2
    go_ret
    exact ⟨rfl, H0.out.hb⟩

theorem Try.own : ownKnob Try.prog.godebug = none := by kernel_rfl
theorem Try.laidOut : laidOutB Try.prog = true := by kernel_rfl

set_option maxRecDepth 100000 in
theorem back_lifted (os : Os) (started : os.Started) (H : Type) (enc : TypeId × Value → H) :
    ReturnsInHanded {} Try.checked os 6 .any (Rows.procBackSpec.pre6 enc Try.prog Try.f6 Rows.procBackRow.domain false) (Rows.procBackSpec.post enc Try.prog Try.f6 false true false false) := by
  refine returnsInHanded_of_change (C := Try.checked) Try.own started (by kernel_rfl) Try.func6
    (ChangeSpec.witness6 (enc := enc) (C := Try.checked) false ⟨#[], #[.agg #[.string .empty, .int .i64 0, .slice none 0 0], .agg #[.int .i64 0, .int .i64 0, .int .i64 0, .int .i64 0, .int .i64 0, .int .i64 0, .int .i64 0, .string .empty], .int .i64 0], []⟩ 8 (by kernel_rfl) (by kernel_rfl) (by kernel_rfl) (by kernel_rfl)) ?_
  intro W base args ds gs before hval0 hW hcnd _
  have hval : ∀ (j : Nat) t v, Try.f6.params[j]? = some t → args[j]? = some v → Value.okWide Try.prog W .any base t v := hval0
  have hW' := hW
  obtain ⟨p, q, hA0, hV, rfl, hfz, hnd⟩ := hW
  have hA : DataW.TrodAll enc Try.prog W 0 (fun _ => true) true Try.f6.params.toList args.toList ds p := hA0
  rw [Try.params6] at hA hval
  obtain ⟨v0, vs0, d0, ds0, p0, q0, hargs, rfl, rfl, h0, r0⟩ := trodAll_cons hA
  obtain ⟨v1, vs1, d1, ds1, p1, q1, rfl, rfl, rfl, h1, r1⟩ := trodAll_cons r0
  obtain ⟨v2, vs2, d2, ds2, p2, q2, rfl, rfl, rfl, h2, r2⟩ := trodAll_cons r1
  obtain ⟨rfl, rfl, rfl⟩ := trodAll_nil r2
  obtain rfl : args = #[v0, v1, v2] := by cases args; simp_all
  obtain ⟨rfl, rfl⟩ := trodVars_none hV
  have k0 := h0
  have k1 := h1
  have lt0 : ∀ x ∈ p0, x.block < W.heap.size := by obtain ⟨m, hm⟩ := k0; exact DataW.trod_lt m _ _ _ hm
  have lt1 : ∀ x ∈ p1, x.block < W.heap.size := by obtain ⟨m, hm⟩ := k1; exact DataW.trod_lt m _ _ _ hm
  obtain ⟨nm, ar, S, xs, rfl, hS, hxs⟩ := proc_of_trod (hval 0 24 v0 rfl rfl) h0
  obtain ⟨x, rfl, hx⟩ := instr_of_trod (hval 1 28 v1 rfl rfl) h1
  obtain ⟨a2, rfl, rfl, rfl, w2⟩ := open_int Try.underlying3 (hval 2 3 v2 rfl rfl) h2
  clear hA0 hval0
  refine (back_any nm ar S xs x a2 W hS hxs hx).mono fun e W' ⟨he, bel⟩ => ?_
  subst he
  exact ⟨_, rfl, _, _, _, [], _, [], hW', trodAll_mk1 (shut_bool Try.underlying4 _), (trodAll_cons_mk (Below.trod Try.laidOut (by kernel_rfl) (of_decide_eq_true (by kernel_rfl)) k0 bel lt0) (trodAll_cons_mk (Below.trod Try.laidOut (by kernel_rfl) (of_decide_eq_true (by kernel_rfl)) k1 bel lt1) (trodAll_cons_mk (shut_int Try.underlying3 w2) trodAll_mk0))), rfl, bel.frame _, fun h => by cases h⟩

theorem procBack_holds : Rows.ProcBackSaid :=
  OpenClaim.holds_of_wide 6 Try.f6 rfl rfl rfl rfl rfl rfl rfl ⟨rfl, rfl, rfl, rfl, rfl⟩ rfl rfl rfl rfl rfl (by kernel_rfl) Try.func6 (by kernel_rfl)
    (of_decide_eq_true (by kernel_rfl)) (by unfold Func.isWrapper; first | (rw [if_pos (by decide +kernel)]; kernel_rfl) | (rw [if_neg (by decide +kernel)]; exact ⟨rfl, rfl⟩))
    (fun os started H enc _ => back_lifted os started H enc)

#print axioms procBack_holds
end Go.Proofs.Ytljfmbjibjoiiaa
