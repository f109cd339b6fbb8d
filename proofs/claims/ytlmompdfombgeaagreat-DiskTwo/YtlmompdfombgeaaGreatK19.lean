import Derived.Test.YtlmompdfombgeaaGreatK18
namespace Go.Proofs.YtlmompdfombgeaaGreat
open Go.RowKit Go.MapKept

theorem crash_end {w w5 w6 : World} {p q X n : Nat} {zs whole : List Int} {vs' vd' vf' v0 v1 v2 v3 v4 : Value} (no : Int) (hb5 : Below w.heap.size w w5) (hX : Own w5 X whole) (hXl : w.heap.size ≤ X) (hpl : p < w.heap.size) (hn : zs.length = n)
    (hf6 : FileAt w6 w5.heap.size q zs [] zs (List.replicate n false) n vs' (.slice none 0 0) vd' vf') (hb6 : Below w5.heap.size w5 w6) (hp6 : w6.heap[p]? = some (.cells #[v0, v1, v2, v3, v4] 112 (0, 0))) :
    ∃ ft', Own (((((w6.setCell ⟨p, 0, none⟩ vs').setCell ⟨p, 1, none⟩ (.slice none 0 0)).setCell ⟨p, 2, none⟩ vd').setCell ⟨p, 3, none⟩ vf').setCell ⟨p, 4, none⟩ (.int .i64 n)) X whole ∧
      Fil (((((w6.setCell ⟨p, 0, none⟩ vs').setCell ⟨p, 1, none⟩ (.slice none 0 0)).setCell ⟨p, 2, none⟩ vd').setCell ⟨p, 3, none⟩ vf').setCell ⟨p, 4, none⟩ (.int .i64 n)) ft' p ⟨no, zs, []⟩ ∧ (∀ k, ft' k → k = p ∨ (w.heap.size ≤ k ∧ k ≠ X)) ∧ Kept (fun k => k = p) w (((((w6.setCell ⟨p, 0, none⟩ vs').setCell ⟨p, 1, none⟩ (.slice none 0 0)).setCell ⟨p, 2, none⟩ vd').setCell ⟨p, 3, none⟩ vf').setCell ⟨p, 4, none⟩ (.int .i64 n)) := by
  have KZ : Kept (fun k => k = p) w6 (((((w6.setCell ⟨p, 0, none⟩ vs').setCell ⟨p, 1, none⟩ (.slice none 0 0)).setCell ⟨p, 2, none⟩ vd').setCell ⟨p, 3, none⟩ vf').setCell ⟨p, 4, none⟩ (.int .i64 n)) :=
    (((((Kept.refl (fun k => k = p) w6).setCell (p := ⟨p, 0, none⟩) (fun _ => rfl) _).setCell (p := ⟨p, 1, none⟩) (fun _ => rfl) _).setCell (p := ⟨p, 2, none⟩) (fun _ => rfl) _).setCell (p := ⟨p, 3, none⟩) (fun _ => rfl) _).setCell (p := ⟨p, 4, none⟩) (fun _ => rfl) _
  have hblk : (((((w6.setCell ⟨p, 0, none⟩ vs').setCell ⟨p, 1, none⟩ (.slice none 0 0)).setCell ⟨p, 2, none⟩ vd').setCell ⟨p, 3, none⟩ vf').setCell ⟨p, 4, none⟩ (.int .i64 n)).heap[p]? = some (.cells #[vs', .slice none 0 0, vd', vf', .int .i64 n] 112 (0, 0)) :=
    set_block (i := 4) (set_block (i := 3) (set_block (i := 2) (set_block (i := 1) (set_block (i := 0) hp6 _) _) _) _) _
  obtain ⟨WZ, hWZ⟩ : ∃ WZ, WZ = (((((w6.setCell ⟨p, 0, none⟩ vs').setCell ⟨p, 1, none⟩ (.slice none 0 0)).setCell ⟨p, 2, none⟩ vd').setCell ⟨p, 3, none⟩ vf').setCell ⟨p, 4, none⟩ (.int .i64 n)) := ⟨_, rfl⟩
  rw [← hWZ] at KZ hblk ⊢
  have z5 := hb5.size
  have hXlt := hp_lt hX
  have low : ∀ (v : Value) (e : TypeId) (m : Nat) (xs : List Value), w6.ownsRow w5.heap.size e 1 v m xs → ∀ k, v.ownBlock = some k → k ≠ p := by
    intro v e m xs ho k hk
    have := (ho.lt k hk).1
    omega
  have hrow : Fi.row ⟨no, zs, []⟩ = (zs, List.replicate zs.length false) := rfl
  have hpk : Fi.peak ⟨no, zs, []⟩ = zs.length := peakC_nil zs
  refine ⟨ftOf p [] vs' (.slice none 0 0) vd' vf', ?_, ⟨[], vs', .slice none 0 0, vd', vf', ?_, Pends.nil _ _ _ _, fun k => Iff.rfl⟩, ?_, ?_⟩
  · exact hp_kept (hp_below hX hb6 hXlt) KZ (by omega)
  · rw [hrow, hpk, hn]
    refine ⟨hblk, ?_, owns_nil _ _ _ _, ?_, ?_, hf6.sep⟩
    · exact owns_base (ownsRow_kept hf6.os KZ (fun k hk e => low _ _ _ _ hf6.os k hk e)) (Nat.zero_le _)
    · exact owns_base (ownsRow_kept hf6.od KZ (fun k hk e => low _ _ _ _ hf6.od k hk e)) (Nat.zero_le _)
    · exact owns_base (ownsRow_kept hf6.of KZ (fun k hk e => low _ _ _ _ hf6.of k hk e)) (Nat.zero_le _)
  · rintro k (e | e | e | e | e | ⟨sv, hm, e⟩)
    · exact .inl e
    · have := (hf6.os.lt k e).1; exact .inr ⟨by omega, by omega⟩
    · simp [Value.ownBlock] at e
    · have := (hf6.od.lt k e).1; exact .inr ⟨by omega, by omega⟩
    · have := (hf6.of.lt k e).1; exact .inr ⟨by omega, by omega⟩
    · cases hm
  · exact ((Kept.ofBelow (hb5.trans (hb6.mono z5))).mono (fun _ _ e => e.elim)).trans KZ (fun _ _ e => e)

theorem flat_i64 : ∀ data : List Int, data.flatMap (fun y => [Value.int .i64 y]) = data.map (fun y => Value.int .i64 y)
  | [] => rfl
  | y :: l => by rw [List.flatMap_cons, flat_i64 l]; rfl

set_option maxRecDepth 100000 in
set_option maxHeartbeats 12800000 in
theorem crash_fil {w : World} {ft : Nat → Prop} {p : Nat} {f : Fi} (h : Fil w ft p f) (hcut : CutsOK f.safe f.cs) (done : Int) (hdn : I64 done) (lv : Value) (lost : List Int) (hls : Ln w lv lost) (hli : ∀ x ∈ lost, I64 x) (l1 : f.cs.length ≤ 1000000) (l2 : f.peak ≤ 10000000) (l3 : lost.length ≤ 1000000) :
    Calls Tryz.prog 93 #[.pointer (some ⟨p, 0, none⟩), .agg #[.int .i64 done, lv]] w fun x w' => ∃ X ft', x = .returned (.slice (some ⟨X, 0, none⟩) (wholeF done f).1.length (wholeF done f).1.length) ∧ w.heap.size ≤ X ∧ Own w' X (wholeF done f).1 ∧ Fil w' ft' p (crashF (done, lost) f) ∧ (∀ k, ft' k → k = p ∨ (w.heap.size ≤ k ∧ k ≠ X)) ∧ Kept (fun k => k = p) w w' := by
  obtain ⟨pend, vs, vp, vd, vf, hf, hp, -⟩ := h
  obtain ⟨K, hK⟩ : ∃ K, K = firstN done f.cs.length := ⟨_, rfl⟩
  have hKle : K ≤ f.cs.length := by rw [hK]; exact firstN_le _ _
  have hpl := hp_lt hf.blk
  have hpe := hp.1
  obtain ⟨rv, hrun, hrow, -⟩ := ownC_to hf.op K (by omega)
  obtain ⟨arv, crv, hrv⟩ := own_shape hrow
  subst hrv
  obtain ⟨c0, c1, c2, c3, c4⟩ := cells5 hf.blk
  obtain ⟨asf, cas, hvs⟩ := own_shape hf.os
  obtain ⟨apn, cpn, hvp⟩ := own_shape hf.op
  rw [hvs] at c0
  rw [hvp] at c1 hrun
  have hsl := sl_of_owns hf.os
  rw [hvs] at hsl
  rw [hpe] at c1 hrun
  have hsafe : f.safe.length ≤ f.peak := safe_le_peak f.safe f.cs
  have hrnd := round_first done f.cs.length
  have hbd : ∀ k, (rowC f.safe (f.cs.take k)).1.length ≤ f.peak := fun k => take_le_peak f.safe f.cs k
  have hlen2 : ∀ k, (rowC f.safe (f.cs.take k)).2.length = (rowC f.safe (f.cs.take k)).1.length := fun k => rowC_len f.safe (f.cs.take k)
  obtain ⟨al, cl, hlv, hcl1, hcl2⟩ := hls.shape
  subst hlv
  have hf0 := hid hf
  have HP := hid (And.intro hp (And.intro hrow (And.intro hcut (And.intro hls hli))))
  have HSL := hid hsl
  have HKK := hid hK
  have HBD := hid (And.intro hbd hlen2)
  have hrnd' : ∀ w, Calls Tryz.prog 94 #[.int .i64 done, .int .i64 ((f.cs.length : Int) + 1)] w fun x w' => x = .returned (.int .i64 (K : Nat)) ∧ w' = w := fun w => by
    rw [hK]
    exact hrnd w hdn l1
  have HR := hid hrnd'
  clear hf hp hrow hcut hls hsl hK hbd hlen2 hrnd hrnd' c2 c3 c4 hvs hvp hpe hli
  go_enter Tryz.func93, Tryz.ntmps93
  go_wp2_with (
    go_at_call 124
    refine (safeRow_any _ f.safe _ (HSL.out.alloc _) (by omega)).mono ?_
    rintro e w1 ⟨A, Bf, rfl, hA, hF, g1, g2, g3, hb⟩
    have HX := hid (And.intro hA (And.intro hF (And.intro g1 (And.intro g2 (And.intro g3 hb)))))
    clear hA hF g1 g2 g3 hb)
  have hbx : (w.alloc (.cells #[.int .i64 done, .slice al lost.length cl] 91)).heap.size = w.heap.size + 1 := by simp
  obtain ⟨W, hW⟩ : ∃ W, W = w1.alloc (.cells #[.slice (some ⟨A, 0, none⟩) f.safe.length f.safe.length, .slice (some ⟨Bf, 0, none⟩) f.safe.length f.safe.length] 109) := ⟨_, rfl⟩
  have hsize : w.heap.size + 1 ≤ w1.heap.size := by have := HX.out.2.2.2.2.2.size; rw [hbx] at this; exact this
  have hWb : Below w.heap.size w W := by
    rw [hW]
    exact (((Below.refl _ w).alloc (Nat.le_refl _) _).trans (HX.out.2.2.2.2.2.mono (by rw [hbx]; omega))).alloc (by omega) _
  have hWx : W.heap[w.heap.size]? = some (.cells #[.int .i64 done, .slice al lost.length cl] 91 (0, 0)) := by
    rw [hW]
    exact hp_alloc (hp_below (hp_new w _) HX.out.2.2.2.2.2 (by rw [hbx]; omega)) _
  have hAB : w.heap.size + 1 ≤ A ∧ w.heap.size + 1 ≤ Bf := by
    have a1 := HX.out.2.2.1
    have a2 := HX.out.2.2.2.1
    rw [hbx] at a1 a2
    exact ⟨a1, a2⟩
  obtain ⟨r, hr⟩ : ∃ r, r = w1.heap.size := ⟨_, rfl⟩
  have hWR : RowAt W (w.heap.size + 1) r (.slice (some ⟨A, 0, none⟩) f.safe.length f.safe.length) (.slice (some ⟨Bf, 0, none⟩) f.safe.length f.safe.length) f.safe (List.replicate f.safe.length false) := by
    refine ⟨by rw [hW, hr]; exact hp_new _ _, ?_, ?_⟩
    · rw [hW]
      exact (show Own _ A f.safe from hp_alloc HX.out.1 _).owns hAB.1 (by unfold maxLen; omega)
    · have := (show OwnB W Bf (List.replicate f.safe.length false) by rw [hW]; exact hp_alloc HX.out.2.1 _).owns (B := w.heap.size + 1) hAB.2 (by simp; unfold maxLen; omega)
      simpa using this
  rw [← hW]
  rw [← hr] at hsize ⊢
  have d1 := (hWb.cell (World.block_lt_of_cell? _ _ c1)).trans c1
  obtain ⟨x0, x1⟩ := cells2 hWx
  have HI := hid (And.intro hWb (And.intro hWx hWR))
  clear hW HX hbx hr hWb hWx hWR hAB c0 c1
  go_quiet ((go_at_call 94; exact Calls.quiet_of_same (HR.out _)))
  go_wp2
  go_loopw [32] (fun i wr => ∃ (k : Nat) (vd1 vf1 : Value), k ≤ K ∧ i = .int .i64 k ∧ Hid (RowAt wr (w.heap.size + 1) r vd1 vf1 (rowC f.safe (f.cs.take k)).1 (rowC f.safe (f.cs.take k)).2 ∧ Below w.heap.size w wr ∧ wr.heap[w.heap.size]? = some (.cells #[.int .i64 done, .slice al lost.length cl] 91 (0, 0)) ∧ w.heap.size + 1 ≤ wr.heap.size)) (fun i _ => K - (intOf i).toNat)
  case atStart =>
    obtain ⟨hWb, hWx, hWR⟩ := HI.out
    have hq : Below W.heap.size W (W.drewN nq) := below_drewN (Below.refl _ _) nq
    exact ⟨0, _, _, Nat.zero_le _, by go_num, hid ⟨hWR.below hq (by omega), hWb.trans (hq.mono hWb.size), hWx, by have := hp_lt hWx; show w.heap.size + 1 ≤ W.heap.size; omega⟩⟩
  case round =>
    obtain ⟨k, vd1, vf1, hk1, rfl, HL⟩ := hrel
    obtain ⟨hR, hB, hX, hz⟩ := HL.out
    obtain ⟨ad1, cd1, rfl⟩ := own_shape hR.od
    obtain ⟨af1, cf1, rfl⟩ := own_shape hR.of
    rw [HBD.out.2 k] at hR
    obtain ⟨v0, v1⟩ := cells2 hR.blk
    have hrl := hp_lt hR.blk
    by_cases hlt : k < K
    · have i1 : (k : Int) < (K : Int) := by omega
      have hkc : k < f.cs.length := by omega
      obtain ⟨hpp, hrow, hcut, -⟩ := HP.out
      have hpe := hpp.1
      have hkp : k < pend.length := by omega
      obtain ⟨gp, cp9, e9⟩ := own_some hrow (by omega)
      injection e9 with e9 _ e10
      subst e9 e10
      have cpk : wr.cell? ⟨gp, k, none⟩ = some pend[k] := by
        have h1 := hrow.cells (g := gp) rfl k pend[k] (by rw [List.getElem?_take, if_pos hlt]; exact List.getElem?_eq_getElem hkp)
        rw [add_lit, Nat.zero_add] at h1
        exact (hB.cell (World.block_lt_of_cell? _ _ h1)).trans h1
      have hchg := (hpp.2 k pend[k] f.cs[k] (List.getElem?_eq_getElem hkp) (List.getElem?_eq_getElem hkc)).keptOf (vs' := vs) (vd' := vd) (Kept.ofBelow hB) (fun _ _ _ _ e => e) (.inl rfl) (.inl rfl)
      have hsucc := rowC_take_succ f.safe f.cs k f.cs[k] (List.getElem?_eq_getElem hkc)
      have hbk := HBD.out.1 k
      have hbk1 := HBD.out.1 (k + 1)
      have hl2 := HBD.out.2 k
      rw [hsucc] at hbk1
      cases hc : f.cs[k] with
      | inl ys =>
        rw [hc] at hchg hsucc hbk1
        obtain ⟨sv, hsv, hs, -⟩ := hchg
        rw [hsv] at cpk
        have hcall := doA_any (w.heap.size + 1) r _ _ _ _ wr sv ys hR hs hl2 hz (by omega) (Nat.le_trans hbk1 (by omega))
        have hna := nilAhead124 sv
        have hmt := method124 sv
        have HC := hid hcall
        have HS := hid hsucc
        have HRr := hid hR
        clear hR hcall hsucc hs hsv hc hbk hbk1 hl2 hrow hcut hpp
        go_wp2_with (
          go_at_call 189
          refine HC.out.mono ?_
          rintro e w2 ⟨vd2, vf2, rfl, hd2, hf2, hk2⟩
          obtain ⟨ad2, cd2, rfl⟩ := own_shape hd2
          obtain ⟨af2, cf2, rfl⟩ := own_shape hf2
          obtain ⟨hst, hr2, hkk⟩ := HRr.out.store hk2 hd2 hf2 (by omega)
          obtain ⟨z0, z1⟩ := cells2 hr2
          have zf := (show ∀ o, w2.frozen? ⟨r, o, none⟩ = false from fun o => free_of_block hr2)
          have H2 := hid (And.intro hst hkk)
          clear hst hr2 hkk hd2 hf2 hk2)
        go_roundw
        case rel =>
          obtain ⟨hst, hkk⟩ := H2.out
          refine ⟨k + 1, .slice ad2 (doC ((rowC f.safe (f.cs.take k)).1, (rowC f.safe (f.cs.take k)).2) (.inl ys)).1.length cd2, .slice af2 (doC ((rowC f.safe (f.cs.take k)).1, (rowC f.safe (f.cs.take k)).2) (.inl ys)).2.length cf2, by omega, by go_num, hid ⟨by rw [HS.out]; exact hst, hB.trans (hkk.below hB.size (fun j hj e => by omega)), hp_kept hX hkk (by omega), by have := hkk.size; omega⟩⟩
        case measure => simp [intOf]; omega
      | inr m =>
        rw [hc] at hchg hsucc hbk1
        have hsv : pend[k] = .iface 125 (.int .i64 m) := hchg
        have hmk := hcut k m (by rw [List.getElem?_eq_getElem hkc, hc])
        rw [hsv] at cpk
        have hcall := doB_any (w.heap.size + 1) r _ _ _ _ wr m hR hmk hl2 (by omega)
        have hna := nilAhead125 (.int .i64 m)
        have hmt := method125 (.int .i64 m)
        have HC := hid hcall
        have HS := hid hsucc
        have HRr := hid hR
        clear hR hcall hsucc hchg hsv hc hbk hbk1 hl2 hrow hcut hpp hmk
        go_wp2_with (
          go_at_call 190
          refine HC.out.mono ?_
          rintro e w2 ⟨vd2, vf2, rfl, hd2, hf2, hk2⟩
          obtain ⟨ad2, cd2, rfl⟩ := own_shape hd2
          obtain ⟨af2, cf2, rfl⟩ := own_shape hf2
          obtain ⟨hst, hr2, hkk⟩ := HRr.out.store hk2 hd2 hf2 (by omega)
          obtain ⟨z0, z1⟩ := cells2 hr2
          have zf := (show ∀ o, w2.frozen? ⟨r, o, none⟩ = false from fun o => free_of_block hr2)
          have H2 := hid (And.intro hst hkk)
          clear hst hr2 hkk hd2 hf2 hk2)
        go_roundw
        case rel =>
          obtain ⟨hst, hkk⟩ := H2.out
          refine ⟨k + 1, .slice ad2 (doC ((rowC f.safe (f.cs.take k)).1, (rowC f.safe (f.cs.take k)).2) (.inr m)).1.length cd2, .slice af2 (doC ((rowC f.safe (f.cs.take k)).1, (rowC f.safe (f.cs.take k)).2) (.inr m)).2.length cf2, by omega, by go_num, hid ⟨by rw [HS.out]; exact hst, hB.trans (hkk.below hB.size (fun j hj e => by omega)), hp_kept hX hkk (by omega), by have := hkk.size; omega⟩⟩
        case measure => simp [intOf]; omega
    · have i3 : ¬ ((k : Int) < (K : Int)) := by omega
      have ek : k = K := by omega
      have hwh : rowC f.safe (f.cs.take k) = wholeF done f := by
        unfold wholeF
        rw [← HKK.out, ek]
      obtain ⟨n, hn⟩ : ∃ n, n = (rowC f.safe (f.cs.take k)).1.length := ⟨_, rfl⟩
      obtain ⟨xs, hxs⟩ : ∃ xs, xs = (rowC f.safe (f.cs.take k)).1 := ⟨_, rfl⟩
      obtain ⟨fs, hfs⟩ : ∃ fs, fs = (rowC f.safe (f.cs.take k)).2 := ⟨_, rfl⟩
      have hn1 : n ≤ 10000000 := by rw [hn]; have := HBD.out.1 k; omega
      have hl2 := HBD.out.2 k
      rw [← hn] at hR v0 v1 hl2
      rw [← hxs, ← hfs] at hR
      rw [← hfs] at hl2
      have HN := hid (show xs.length = n by rw [hxs, hn])
      have HK := hid (And.intro (show xs = (wholeF done f).1 by rw [hxs, hwh]) (show fs = (wholeF done f).2 by rw [hfs, hwh]))
      have HL2 := hid hl2
      have HR4 := hid (And.intro hR (And.intro hB hX))
      clear hn hxs hfs hwh ek hR hB hX hl2 HL HI
      have hXl : w.heap.size ≤ wr.heap.size := HR4.out.2.1.size
      rcases Nat.eq_zero_or_pos n with hn0 | hn0
      · have eq1 : ¬ 0 < ((n : Int) + 16 - 1) / 16 := by omega
        have HN0 := hid hn0
        clear hn0
        go_wp2_with (first
          | (go_at_call 71
             refine (copied_n _ xs n HN.out _ (by have := sl_of_owns HR4.out.1.od; exact this) (by omega)).mono ?_
             rintro e w5 ⟨rfl, ho, hb⟩
             have b0 := (hb.cell (World.block_lt_of_cell? _ _ v0)).trans v0
             have b1 := (hb.cell (World.block_lt_of_cell? _ _ v1)).trans v1
             have hb5 := (show Below w.heap.size w w5 from HR4.out.2.1.trans (hb.mono hXl))
             have HB5 := hid (And.intro hb5 ho)
             have HZ := hid (And.intro (hp_below hf0.out.blk hb5 hpl) (And.intro HN.out (show Sl w5 (.slice ad1 n cd1) xs from by have := sl_of_owns (HR4.out.1.below hb (by omega)).od; exact this)))
             clear ho hb hb5)
          | (go_at_call 121; go_loud (
              refine (newFile_n _ (xs) n HZ.out.2.1 _ HZ.out.2.2 (by omega)).mono ?_
              rintro e w6 ⟨q, vs', vd', vf', rfl, hq, hf6, hb6⟩
              obtain ⟨s0, s1, s2, s3, s4⟩ := cells5 hf6.blk
              obtain ⟨as0, ac0, e0⟩ := own_shape hf6.os
              obtain ⟨as2, ac2, e2⟩ := own_shape hf6.od
              obtain ⟨as3, ac3, e3⟩ := own_shape hf6.of
              rw [HZ.out.2.1] at e0 e2
              rw [List.length_replicate] at e3
              subst e0 e2 e3
              have hp6 := hp_below HZ.out.1 hb6 (hp_lt HZ.out.1)
              obtain ⟨u0, u1, u2, u3, u4⟩ := cells5 hp6
              have uf := (show ∀ o, w6.frozen? ⟨p, o, none⟩ = false from fun o => free_of_block hp6)
              have HF6 := hid (And.intro hf6 (And.intro hb6 hp6))
              clear hq hf6 hb6 hp6)))
        go_ret
        obtain ⟨ft', r1, r2, r3, r4⟩ := crash_end f.no HB5.out.1 HB5.out.2 hXl hpl HZ.out.2.1 HF6.out.1 HF6.out.2.1 HF6.out.2.2
        refine ⟨wr.heap.size, ft', ?_, hXl, ?_, ?_, r3, r4⟩
        · rw [← HK.out.1, HN.out]; rfl
        · rw [← HK.out.1]; exact r1
        · have e9 : crashF (done, lost) f = ⟨f.no, xs, []⟩ := by
            show (⟨f.no, loseAll (wholeF done f).2 lost (wholeF done f).1, []⟩ : Fi) = _
            rw [← HK.out.1, ← HK.out.2]
            rw [show xs = [] from List.eq_nil_of_length_eq_zero (HN.out.trans HN0.out), loseAll_nil]
          rw [e9]
          exact r2
      · have eq1 : 0 < ((n : Int) + 16 - 1) / 16 := by omega
        obtain ⟨gd, cd9, e1⟩ := own_some HR4.out.1.od (by rw [HN.out]; exact hn0)
        obtain ⟨gf, cf9, e2⟩ := own_some HR4.out.1.of (by rw [HL2.out]; exact hn0)
        rw [HN.out] at e1
        rw [HL2.out] at e2
        injection e1 with e1 _ e3
        injection e2 with e2 _ e4
        subst e1 e2 e3 e4
        have HXG := hid (show gd ≠ wr.heap.size from by have := (HR4.out.1.od.lt gd rfl).2; omega)
        go_wp2_with (
          go_at_call 71
          refine (copied_n _ xs n HN.out _ (by have := sl_of_owns HR4.out.1.od; exact this) (by omega)).mono ?_
          rintro e w3 ⟨rfl, ho, hb⟩
          have b0 := (hb.cell (World.block_lt_of_cell? _ _ v0)).trans v0
          have b1 := (hb.cell (World.block_lt_of_cell? _ _ v1)).trans v1
          have hX3 := hp_below HR4.out.2.2 hb (hp_lt HR4.out.2.2)
          obtain ⟨t0, t1⟩ := cells2 hX3
          have HC3 := hid (And.intro ho (And.intro hb hX3))
          clear ho hb hX3)
        go_loopw [54] (fun i ws => ∃ j : Nat, j ≤ lost.length ∧ i = .int .i64 j ∧ Hid (RowAt ws (w.heap.size + 1) r (.slice (some ⟨gd, 0, none⟩) n cd1) (.slice (some ⟨gf, 0, none⟩) n cf1) (loseAll fs (lost.take j) xs) fs ∧ Below w.heap.size w ws ∧ Own ws wr.heap.size xs ∧ ws.heap[w.heap.size]? = some (.cells #[.int .i64 done, .slice al lost.length cl] 91 (0, 0)) ∧ wr.heap.size < ws.heap.size)) (fun i _ => lost.length - (intOf i).toNat)
        case atStart =>
          obtain ⟨ho, hb, hX3⟩ := HC3.out
          exact ⟨0, Nat.zero_le _, by go_num, hid ⟨HR4.out.1.below hb (by omega), HR4.out.2.1.trans (hb.mono hXl), ho, hX3, hp_lt ho⟩⟩
        case round =>
          obtain ⟨j, hj1, rfl, HJ⟩ := hrel
          rename World => ws
          obtain ⟨hR5, hB5, hX5, hx5, hz5⟩ := HJ.out
          obtain ⟨q0, q1⟩ := cells2 hR5.blk
          by_cases hjl : j < lost.length
          · have i2 : (j : Int) < (lost.length : Int) := by omega
            obtain ⟨-, -, -, hls, hli⟩ := HP.out
            obtain ⟨bl, ol, cl9, e9, -, -, hcl⟩ := hls.lits (by omega) (by omega)
            injection e9 with e9 _ e10
            subst e9 e10
            have hjg : lost[j]? = some lost[j] := List.getElem?_eq_getElem hjl
            have cj : ws.cell? ⟨bl, ol + j, none⟩ = some (.int .i64 lost[j]) := by
              have h1 := hcl j (.int .i64 lost[j]) (by rw [flat_i64, List.getElem?_map, hjg]; rfl)
              exact (hB5.cell (World.block_lt_of_cell? _ _ h1)).trans h1
            have hv := hli _ (List.getElem_mem hjl)
            obtain ⟨v, hvv⟩ : ∃ v, v = lost[j] := ⟨_, rfl⟩
            rw [← hvv] at cj hv hjg
            obtain ⟨s, hs⟩ : ∃ s, s = (v % (secs n : Int)).toNat := ⟨_, rfl⟩
            have hs16 : 16 * s ≤ n := by rw [hs]; exact secs_lt v n hn0
            have hrd : ∀ w, Calls Tryz.prog 94 #[.int .i64 v, .int .i64 (((n : Int) + 16 - 1) / 16)] w fun x w' => x = .returned (.int .i64 (s : Nat)) ∧ w' = w := fun w => by
              rw [hs]
              exact round_secs v n w hv hn0 (by omega)
            have hlose : ∀ ww : World, Kept (fun _ => False) ws ww → Calls Tryz.prog 125 #[.agg #[.slice (some ⟨gd, 0, none⟩) n cd1, .slice (some ⟨gf, 0, none⟩) n cf1], .int .i64 s] ww fun x w' => x = .returned (.tuple #[]) ∧ RowAt w' (w.heap.size + 1) r (.slice (some ⟨gd, 0, none⟩) n cd1) (.slice (some ⟨gf, 0, none⟩) n cf1) (loseAll fs (lost.take (j + 1)) xs) fs ∧ Kept (fun k => k = gd) ws w' := by
              intro ww hww
              have hR6 := hR5.kept hww (fun _ _ _ e => e) (by omega)
              have hd6 := hR6.od
              have hf6 := hR6.of
              rw [loseAll_len, HN.out] at hd6
              rw [HL2.out] at hf6
              refine (lose_any (w.heap.size + 1) s n gd gf cd1 cf1 _ fs ww hd6 hf6 (by omega) hs16).mono ?_
              rintro x w' ⟨rfl, ho, hk⟩
              have e1 : loseAll fs (lost.take (j + 1)) xs = loseTo (16 * s) (min (16 * s + 16) n) (loseAll fs (lost.take j) xs) fs := by
                rw [loseAll_succ fs lost j v hjg, HN.out, ← hs]
                unfold loseS
                rw [loseAll_len, HN.out]
              have hgr : r ≠ gd := fun e => own_ne_blk hR6.od hR6.blk (by decide) (by rw [e]; rfl)
              have hgf : gf ≠ gd := fun e => own_ne hR6.od hR6.of (by decide) gd rfl (by rw [e]; rfl)
              refine ⟨rfl, ⟨hp_kept hR6.blk hk hgr, ?_, ?_⟩, ?_⟩
              · rw [loseAll_len, HN.out, e1]
                exact ho
              · exact ownsRow_kept hR6.of hk (fun k hk' e => by simp [Value.ownBlock] at hk'; omega)
              · exact (hww.mono (fun _ _ e => e.elim)).trans hk (fun _ _ e => e)
            have HRD := hid hrd
            have HLO := hid hlose
            have HW5 := hid (And.intro hB5 (And.intro hX5 (And.intro hx5 hR5)))
            clear hrd hlose hvv hls hli hcl hjg hR5 hB5 hX5 hx5 hs hv HJ
            go_wp2_with fail
            go_region_with (
              first
              | (go_at_call 94
                 refine (HRD.out _).mono ?_
                 rintro e w4 ⟨rfl, e1⟩
                 rw [e1]
                 clear e1 w4)
              | (go_at_call 125; go_loud (
                 refine (HLO.out ws.drew (show Kept (fun _ => False) ws ws.drew from ⟨rfl, rfl, rfl, Nat.le_refl _, fun _ _ _ => rfl⟩)).mono ?_
                 rintro e w5 ⟨rfl, hr9, hk9⟩
                 have HL5 := hid (And.intro hr9 hk9)
                 clear hr9 hk9)))
            all_goals
              go_wp2
              go_roundw
              case rel =>
                obtain ⟨hB5, hX5, hx5, hR5⟩ := HW5.out
                obtain ⟨hr9, hk9⟩ := HL5.out
                have hgl := (hR5.od.lt gd rfl).1
                have hzz := hk9.size
                exact ⟨j + 1, by omega, by go_num, hid ⟨hr9, hB5.trans (hk9.below hB5.size (fun k hk e => by omega)), hp_kept hX5 hk9 (fun e => HXG.out (e.symm)), hp_kept hx5 hk9 (by omega), by omega⟩⟩
              case measure => simp [intOf]; omega
          · have i3 : ¬ (j : Int) < (lost.length : Int) := by omega
            have hR6 : RowAt ws (w.heap.size + 1) r (.slice (some ⟨gd, 0, none⟩) n cd1) (.slice (some ⟨gf, 0, none⟩) n cf1) (loseAll fs lost xs) fs := by
              have := hR5
              rw [List.take_of_length_le (by omega)] at this
              exact this
            have hll : (loseAll fs lost xs).length = n := by rw [loseAll_len]; exact HN.out
            have HB5 := hid (And.intro hB5 hX5)
            have HZ := hid (And.intro (hp_below hf0.out.blk hB5 hpl) (And.intro hll (show Sl ws (.slice (some ⟨gd, 0, none⟩) n cd1) (loseAll fs lost xs) from by have := sl_of_owns hR6.od; exact this)))
            clear hR5 hR6 hB5 hX5 hx5 hll HJ
            go_wp2_with (
              (go_at_call 121; go_loud (
                refine (newFile_n _ (loseAll fs lost xs) n HZ.out.2.1 _ HZ.out.2.2 (by omega)).mono ?_
                rintro e w6 ⟨q, vs', vd', vf', rfl, hq, hf6, hb6⟩
                obtain ⟨s0, s1, s2, s3, s4⟩ := cells5 hf6.blk
                obtain ⟨as0, ac0, e0⟩ := own_shape hf6.os
                obtain ⟨as2, ac2, e2⟩ := own_shape hf6.od
                obtain ⟨as3, ac3, e3⟩ := own_shape hf6.of
                rw [HZ.out.2.1] at e0 e2
                rw [List.length_replicate] at e3
                subst e0 e2 e3
                have hp6 := hp_below HZ.out.1 hb6 (hp_lt HZ.out.1)
                obtain ⟨u0, u1, u2, u3, u4⟩ := cells5 hp6
                have uf := (show ∀ o, w6.frozen? ⟨p, o, none⟩ = false from fun o => free_of_block hp6)
                have HF6 := hid (And.intro hf6 (And.intro hb6 hp6))
                clear hq hf6 hb6 hp6)))
            go_ret
            obtain ⟨ft', r1, r2, r3, r4⟩ := crash_end f.no HB5.out.1 HB5.out.2 hXl hpl HZ.out.2.1 HF6.out.1 HF6.out.2.1 HF6.out.2.2
            refine ⟨wr.heap.size, ft', ?_, hXl, ?_, ?_, r3, r4⟩
            · rw [← HK.out.1, HN.out]; rfl
            · rw [← HK.out.1]; exact r1
            · have e9 : crashF (done, lost) f = ⟨f.no, loseAll fs lost xs, []⟩ := by
                show (⟨f.no, loseAll (wholeF done f).2 lost (wholeF done f).1, []⟩ : Fi) = _
                rw [← HK.out.1, ← HK.out.2]
              rw [e9]
              exact r2

end Go.Proofs.YtlmompdfombgeaaGreat
