import Derived.Test.YtkalppcekmlgbabTd
namespace Go.Proofs.Ytkalppcekmlgbab
open Go.RowKit

/-- What the body leaves. -/
def StdP (w : World) (B D S p : Nat) (ov gv : Value) (os gs : List ByteArray) (t : Tr) (fd' : Int) (n : Nat) (k : ByteArray) : Ending → World → Prop := fun e w' => e = .returned (.bool true) ∧ ∃ t', Ux B D S w' ov gv p fd' ((n : Int) + 1) k ∧ Tb w' p t' ∧ Kept (fun j => (S ≤ j ∧ j ≤ S + 3) ∨ j = p ∨ j ∈ t.bs) w w' ∧ (∀ i ∈ t'.bs, i ∈ t.bs ∨ w.heap.size ≤ i) ∧ Good (tcP os gs) t'.toL ∧ Ch t.toL t'.toL (if n < 300 then 1 else 0)

/-- Behind the stores. -/
structure St1 (w W1 : World) (B D S p : Nat) (ov gv : Value) (os gs : List ByteArray) (t : Tr) (fd' : Int) (n : Nat) (k : ByteArray) : Prop where
  ux : Ux B D S W1 ov gv p fd' n k
  tb : Tb W1 p t
  kp : Kept (fun j => S ≤ j ∧ j ≤ S + 3) w W1
  ro : Rf W1 1 ov os.length (os.map Value.string)
  rg : Rf W1 1 gv gs.length (gs.map Value.string)

theorem std_fin {w W1 wf : World} {B D S p : Nat} {ov gv : Value} {os gs : List ByteArray} {t t' : Tr} {fd' : Int} {n : Nat} {k : ByteArray} {d : Nat} (h : St1 w W1 B D S p ov gv os gs t fd' n k) (hs : Sd2 (tcP os gs) W1 wf p t t' d) (hd : d ≤ if n < 300 then 1 else 0) (hD : B + 1 < D ∧ D < S) :
    StdP w B D S p ov gv os gs t fd' n k (.returned (.bool true)) (wf.setCell ⟨S + 1, 0, none⟩ (.int .i64 ((n : Int) + 1))) := by
  have u := h.ux.tb h.tb hs.kp
  have K : Kept (fun j => j = S + 1) wf (wf.setCell ⟨S + 1, 0, none⟩ (.int .i64 ((n : Int) + 1))) := (Kept.refl (fun j => j = S + 1) wf).setCell (p := ⟨S + 1, 0, none⟩) (fun _ => rfl) _
  have hnot := tb_not hs.tb u.bn (by decide)
  refine ⟨rfl, t', ⟨hp_kept u.bo K (by omega), hp_kept u.bg K (by omega), hp_kept u.bt K (by omega), hp_kept u.bf K (by omega), set_block (i := 0) u.bn _, hp_kept u.bl K (by omega), hp_kept u.bk K (by omega)⟩, hs.tb.kept K (fun e => hnot (.inl e.symm)) (fun i hi e => hnot (.inr (e ▸ hi))), ((h.kp.mono (fun j _ e => .inl e)).trans hs.kp (fun j _ e => .inr e)).trans K (fun j _ e => .inl (by omega)), fun i hi => ?_, hs.gd, hs.ch.mono hd⟩
  rcases hs.nw i hi with h1 | h1
  · exact .inl h1
  · exact .inr (Nat.le_trans h.kp.size h1)

theorem std_rf {w W1 wf : World} {B D S p : Nat} {ov gv : Value} {os gs : List ByteArray} {t t' : Tr} {fd' : Int} {n : Nat} {k : ByteArray} {d : Nat} (h : St1 w W1 B D S p ov gv os gs t fd' n k) (hs : Sd2 (tcP os gs) W1 wf p t t' d) (hov : os ≠ [] → ∀ j, ov.ownBlock = some j → j < B) (hgv : gs ≠ [] → ∀ j, gv.ownBlock = some j → j < B) (hp : B ≤ p) (how : ∀ i ∈ t.bs, B ≤ i) : Rf wf 1 ov os.length (os.map Value.string) ∧ Rf wf 1 gv gs.length (gs.map Value.string) := by
  refine ⟨h.ro.keptE hs.kp (fun hc j hj e => ?_), h.rg.keptE hs.kp (fun hc j hj e => ?_)⟩
  · have := hov (fun e => hc (by rw [e]; rfl)) j hj
    rcases e with e | e
    · omega
    · have := how j e; omega
  · have := hgv (fun e => hc (by rw [e]; rfl)) j hj
    rcases e with e | e
    · omega
    · have := how j e; omega

theorem cell_of_rf {w : World} {gb off cap : Nat} {os : List ByteArray} {n : Nat} (h : Rf w 1 (.slice (some ⟨gb, off, none⟩) os.length cap) os.length (os.map Value.string)) (hn : n < os.length) : w.cell? ⟨gb, off + n, none⟩ = some (.string os[n]) := by
  obtain ⟨g2, o2, c2, e, -, -, hc⟩ := h.lits (by omega) (by omega)
  injection e with e1 e2 e3
  injection e1 with e1
  injection e1 with e1 e4
  subst e1 e4
  exact hc n _ (by rw [List.getElem?_map, List.getElem?_eq_getElem hn]; rfl)

set_option maxRecDepth 100000 in
set_option maxHeartbeats 16000000 in
theorem std1a (w : World) (B D S p n : Nat) (fd : Int) (ov gv : Value) (os gs : List ByteArray) (t : Tr) (ls k : ByteArray) (hx : Ux B D S w ov gv p fd n ls) (ht : Tb w p t) (hg : Good (tcP os gs) t.toL) (ho : Rf w 1 ov os.length (os.map Value.string)) (hgo : Rf w 1 gv gs.length (gs.map Value.string))
    (hov : os ≠ [] → ∀ j, ov.ownBlock = some j → j < B) (hgv : gs ≠ [] → ∀ j, gv.ownBlock = some j → j < B) (hD : B + 1 < D ∧ D < S) (hp : B ≤ p) (how : ∀ i ∈ t.bs, B ≤ i) (hls : 0 < n → kl ls k = true) (hn : n < 1200) (hfd : 0 ≤ fd ∧ fd ≤ 5000) (htn : t.n ≤ 5000) (hsz : ∀ q ∈ os, q.size ≤ 281474976710656) :
    Calls Try.prog 24 #[.string k, .int .i64 1, .pointer (some ⟨S + 3, 0, none⟩), .pointer (some ⟨S + 1, 0, none⟩), .pointer (some ⟨S + 2, 0, none⟩), .pointer (some ⟨S, 0, none⟩), .pointer (some ⟨B, 0, none⟩), .pointer (some ⟨D, 0, none⟩), .pointer (some ⟨B + 1, 0, none⟩)] w (StdP w B D S p ov gv os gs t (fd + 1) n k) := by
  obtain ⟨W1, hW1⟩ : ∃ W1, W1 = ((w.setCell ⟨S + 3, 0, none⟩ (.bool true)).setCell ⟨S + 2, 0, none⟩ (.string k)).setCell ⟨S, 0, none⟩ (.int .i64 (fd + 1)) := ⟨_, rfl⟩
  have K1 : Kept (fun j => S ≤ j ∧ j ≤ S + 3) w W1 := by rw [hW1]; exact (((Kept.refl (fun j => S ≤ j ∧ j ≤ S + 3) w).setCell (p := ⟨S + 3, 0, none⟩) (fun _ => (show S ≤ S + 3 ∧ S + 3 ≤ S + 3 by omega)) _).setCell (p := ⟨S + 2, 0, none⟩) (fun _ => (show S ≤ S + 2 ∧ S + 2 ≤ S + 3 by omega)) _).setCell (p := ⟨S, 0, none⟩) (fun _ => (show S ≤ S ∧ S ≤ S + 3 by omega)) _
  have x1 : Ux B D S W1 ov gv p (fd + 1) n k := ⟨hp_kept hx.bo K1 (by omega), hp_kept hx.bg K1 (by omega), hp_kept hx.bt K1 (by omega), by rw [hW1]; exact set_block (i := 0) (hp_set (hp_set hx.bf (by simp) _) (by simp) _) _, by rw [hW1]; exact hp_set (hp_set (hp_set hx.bn (by simp) _) (by simp) _) (by simp) _, by rw [hW1]; exact hp_set (set_block (i := 0) (hp_set hx.bl (by simp) _) _) (by simp) _, by rw [hW1]; exact hp_set (hp_set (set_block (i := 0) hx.bk _) (by simp) _) (by simp) _⟩
  have hq : ∀ j, S ≤ j → j ≤ S + 3 → ¬ (j = p ∨ j ∈ t.bs) := fun j h1 h2 => by
    have : j = S ∨ j = S + 1 ∨ j = S + 2 ∨ j = S + 3 := by omega
    rcases this with rfl | rfl | rfl | rfl
    · exact tb_not ht hx.bf (by decide)
    · exact tb_not ht hx.bn (by decide)
    · exact tb_not ht hx.bl (by decide)
    · exact tb_not ht hx.bk (by decide)
  have t1 : Tb W1 p t := ht.kept K1 (fun e => hq p e.1 e.2 (.inl rfl)) (fun i hi e => hq i e.1 e.2 (.inr hi))
  have s1 : St1 w W1 B D S p ov gv os gs t (fd + 1) n k := ⟨x1, t1, K1, ho.keptE K1 (fun hc j hj e => by have := hov (fun e => hc (by rw [e]; rfl)) j hj; omega), hgo.keptE K1 (fun hc j hj e => by have := hgv (fun e => hc (by rw [e]; rfl)) j hj; omega)⟩
  have SR := hid (Sd2.refl t1 hg)
  have S1 := hid s1
  have PU := hid (show ∀ key, key.size ≤ 281474976710656 → tcP os gs key → Calls Try.prog 20 #[.pointer (some ⟨p, 0, none⟩), .string key, .int .i64 2] W1.drew fun x w' => ∃ v t', x = .returned v ∧ Hid (Sd2 (tcP os gs) W1 w' p t t' 1) from fun key h1 h2 => sd_put t1 hg key h1 h2 (by omega))
  have DE := hid (show ∀ (w2 : World) t2 d key, Sd2 (tcP os gs) W1 w2 p t t2 d → d ≤ 1 → tcP os gs key → Calls Try.prog 25 #[.pointer (some ⟨p, 0, none⟩), .string key] w2.drew fun x w' => ∃ v t', x = .returned v ∧ Hid (Sd2 (tcP os gs) W1 w' p t t' d) from fun w2 t2 d key h1 h2 h3 => by
    have hc2 := h1.ch.c2 (fun _ => true)
    refine (sd_del h1.tb h1.gd key h3 (by unfold Tr.n at *; simp at hc2; omega)).mono ?_
    rintro x w' ⟨v, t', rfl, h⟩
    exact ⟨v, t', rfl, hid (by have := h1.trans h.out; simpa using this)⟩)
  have AF := hid (show ∀ wf t' d, Sd2 (tcP os gs) W1 wf p t t' d → wf.cell? ⟨D, 0, none⟩ = some (.pointer (some ⟨p, 0, none⟩)) ∧ wf.cell? ⟨B, 0, none⟩ = some ov ∧ wf.cell? ⟨B + 1, 0, none⟩ = some gv ∧ wf.cell? ⟨S + 1, 0, none⟩ = some (.int .i64 n) ∧ wf.cell? ⟨S + 3, 0, none⟩ = some (.bool true) ∧ (∀ j, wf.frozen? ⟨S + 1, j, none⟩ = false) ∧ Hid (Rf wf 1 ov os.length (os.map Value.string) ∧ Rf wf 1 gv gs.length (gs.map Value.string)) from fun wf t' d h => by
    have u := s1.ux.tb t1 h.kp
    exact ⟨cells1 u.bt, cells1 u.bo, cells1 u.bg, cells1 u.bn, cells1 u.bk, fun j => free_of_block u.bn, hid (std_rf s1 h hov hgv hp how)⟩)
  have FIN := hid (show ∀ wf t' d, Sd2 (tcP os gs) W1 wf p t t' d → d ≤ (if n < 300 then 1 else 0) → StdP w B D S p ov gv os gs t (fd + 1) n k (.returned (.bool true)) (wf.setCell ⟨S + 1, 0, none⟩ (.int .i64 ((n : Int) + 1))) from fun wf t' d h hd => std_fin s1 h hd hD)
  have y0 := cells1 hx.bk
  have y1 := cells1 hx.bn
  have y2 := cells1 hx.bl
  have y3 := cells1 hx.bf
  have g0 : ∀ j, w.frozen? ⟨S, j, none⟩ = false := fun j => free_of_block hx.bf
  have g2 : ∀ j, w.frozen? ⟨S + 2, j, none⟩ = false := fun j => free_of_block hx.bl
  have g3 : ∀ j, w.frozen? ⟨S + 3, j, none⟩ = false := fun j => free_of_block hx.bk
  have hnw : IntKind.i64.wrap ((n : Int) + 1) = (n : Int) + 1 := by rw [IntKind.wrap_i64]; omega
  have hfw : IntKind.i64.wrap (fd + 1) = fd + 1 := by rw [IntKind.wrap_i64]; omega
  have hn12 : (n : Int) < 1200 := by omega
  have HSZ := hid hsz
  obtain ⟨a1, q1, e1, -, -⟩ := ho.shape
  obtain ⟨a2, q2, e2, -, -⟩ := hgo.shape
  obtain ⟨z0, z1, z2, z3, z4, z5, ZR⟩ := AF.out W1 t 0 SR.out
  have HW := hid hW1
  have HLS := hid hls
  subst e1 e2
  generalize hP : StdP w B D S p (.slice a1 os.length q1) (.slice a2 gs.length q2) os gs t (fd + 1) n k = PP at FIN ⊢
  clear hP hx ht hg ho hgo hov hgv hp how hls hfd htn hsz K1 x1 hq t1 s1 hW1
  by_cases hn0 : n = 0
  · have b00 : ((n : Int) == 0) = true := by rw [beq_iff_eq]; omega
    have HN0 := hid hn0
    clear HLS hn0
    by_cases h3 : n < 300
    · have h3' : (n : Int) < 300 := by omega
      by_cases hpo : n < os.length
      · have hpo' : (n : Int) < os.length := by omega
        by_cases hpd : n < gs.length
        · have hpd' : (n : Int) < gs.length := by omega
          obtain ⟨gb, off, cap', eo, -, -, -⟩ := ZR.out.1.lits (by omega) (by omega)
          injection eo with eo1 _ eo3
          subst eo1 eo3
          have v0 := cell_of_rf ZR.out.1 hpo
          have PU2 := hid (PU.out os[n] (HSZ.out _ (List.getElem_mem hpo)) (.inl (mem_take hpo h3 rfl)))
          obtain ⟨gd, ofd, capd, ed, -, -, -⟩ := ZR.out.2.lits (by omega) (by omega)
          injection ed with ed1 _ ed3
          subst ed1 ed3
          have vd0 := cell_of_rf ZR.out.2 hpd
          have HTD := hid (show tcP os gs gs[n] from .inr (mem_take hpd h3 rfl))
          have KO := hid (show ∀ w2, Rf w2 1 (.slice (some ⟨gb, off, none⟩) os.length q1) os.length (os.map Value.string) → w2.cell? ⟨gb, off + n, none⟩ = some (.string os[n]) from fun w2 h => cell_of_rf h hpo)
          generalize os[n] = ko at v0 PU2 KO
          go_enter Try.func24, Try.ntmps24
          go_upto_region 5 with (fail)
          rw [← HW.out]
          go_wp2_with fail
          go_region_held3 (fun wx => wx.cell? ⟨D, 0, none⟩ = some (.pointer (some ⟨p, 0, none⟩)) ∧ wx.cell? ⟨B, 0, none⟩ = some (.slice (some ⟨gb, off, none⟩) os.length q1) ∧ wx.cell? ⟨S + 1, 0, none⟩ = some (.int .i64 n) ∧ wx.cell? ⟨gb, off + n, none⟩ = some (.string ko))
            (first | (go_keep; done) | (exact X2.out))
            (first
              | (go_at_call 20
                 refine PU2.out.mono ?_
                 rintro e w2 ⟨u2, t2, rfl, N2⟩
                 have A2 := hid (AF.out w2 t2 1 N2.out)
                 have X2 := hid (show w2.cell? ⟨D, 0, none⟩ = some (.pointer (some ⟨p, 0, none⟩)) ∧ w2.cell? ⟨B, 0, none⟩ = some (.slice (some ⟨gb, off, none⟩) os.length q1) ∧ w2.cell? ⟨S + 1, 0, none⟩ = some (.int .i64 n) ∧ w2.cell? ⟨gb, off + n, none⟩ = some (.string ko) from ⟨A2.out.1, A2.out.2.1, A2.out.2.2.2.1, KO.out w2 A2.out.2.2.2.2.2.2.out.1⟩)))
          obtain ⟨b0, b1, b2, b3, b4, b5, BR⟩ := A2.out
          have KD := hid (show ∀ w2, Rf w2 1 (.slice (some ⟨gd, ofd, none⟩) gs.length q2) gs.length (gs.map Value.string) → w2.cell? ⟨gd, ofd + n, none⟩ = some (.string gs[n]) from fun w2 h => cell_of_rf h hpd)
          have vd1 := cell_of_rf BR.out.2 hpd
          generalize gs[n] = kd at vd1 vd0 HTD KD
          have DE2 := hid (DE.out w2 t2 1 kd N2.out (by omega) HTD.out)
          go_wp2_with fail
          go_region_held3 (fun wx => wx.cell? ⟨D, 0, none⟩ = some (.pointer (some ⟨p, 0, none⟩)) ∧ wx.cell? ⟨B + 1, 0, none⟩ = some (.slice (some ⟨gd, ofd, none⟩) gs.length q2) ∧ wx.cell? ⟨S + 1, 0, none⟩ = some (.int .i64 n) ∧ wx.cell? ⟨gd, ofd + n, none⟩ = some (.string kd))
            (first | (go_keep; done) | (exact X3.out))
            (first
              | (go_at_call 25
                 refine DE2.out.mono ?_
                 rintro e w3 ⟨u3, t3, rfl, N3⟩
                 have A3 := hid (AF.out w3 t3 1 N3.out)
                 have X3 := hid (show w3.cell? ⟨D, 0, none⟩ = some (.pointer (some ⟨p, 0, none⟩)) ∧ w3.cell? ⟨B + 1, 0, none⟩ = some (.slice (some ⟨gd, ofd, none⟩) gs.length q2) ∧ w3.cell? ⟨S + 1, 0, none⟩ = some (.int .i64 n) ∧ w3.cell? ⟨gd, ofd + n, none⟩ = some (.string kd) from ⟨A3.out.1, A3.out.2.2.1, A3.out.2.2.2.1, KD.out w3 A3.out.2.2.2.2.2.2.out.2⟩)))
          obtain ⟨d0, d1, d2, d3, d4, d5, DR⟩ := A3.out
          go_wp2
          exact FIN.out w3 t3 1 N3.out (by split <;> omega)
        · have hpd' : ¬ (n : Int) < gs.length := by omega
          obtain ⟨gb, off, cap', eo, -, -, -⟩ := ZR.out.1.lits (by omega) (by omega)
          injection eo with eo1 _ eo3
          subst eo1 eo3
          have v0 := cell_of_rf ZR.out.1 hpo
          have PU2 := hid (PU.out os[n] (HSZ.out _ (List.getElem_mem hpo)) (.inl (mem_take hpo h3 rfl)))
          have KO := hid (show ∀ w2, Rf w2 1 (.slice (some ⟨gb, off, none⟩) os.length q1) os.length (os.map Value.string) → w2.cell? ⟨gb, off + n, none⟩ = some (.string os[n]) from fun w2 h => cell_of_rf h hpo)
          generalize os[n] = ko at v0 PU2 KO
          go_enter Try.func24, Try.ntmps24
          go_upto_region 5 with (fail)
          rw [← HW.out]
          go_wp2_with fail
          go_region_held3 (fun wx => wx.cell? ⟨D, 0, none⟩ = some (.pointer (some ⟨p, 0, none⟩)) ∧ wx.cell? ⟨B, 0, none⟩ = some (.slice (some ⟨gb, off, none⟩) os.length q1) ∧ wx.cell? ⟨S + 1, 0, none⟩ = some (.int .i64 n) ∧ wx.cell? ⟨gb, off + n, none⟩ = some (.string ko))
            (first | (go_keep; done) | (exact X2.out))
            (first
              | (go_at_call 20
                 refine PU2.out.mono ?_
                 rintro e w2 ⟨u2, t2, rfl, N2⟩
                 have A2 := hid (AF.out w2 t2 1 N2.out)
                 have X2 := hid (show w2.cell? ⟨D, 0, none⟩ = some (.pointer (some ⟨p, 0, none⟩)) ∧ w2.cell? ⟨B, 0, none⟩ = some (.slice (some ⟨gb, off, none⟩) os.length q1) ∧ w2.cell? ⟨S + 1, 0, none⟩ = some (.int .i64 n) ∧ w2.cell? ⟨gb, off + n, none⟩ = some (.string ko) from ⟨A2.out.1, A2.out.2.1, A2.out.2.2.2.1, KO.out w2 A2.out.2.2.2.2.2.2.out.1⟩)))
          obtain ⟨b0, b1, b2, b3, b4, b5, BR⟩ := A2.out
          go_wp2
          exact FIN.out w2 t2 1 N2.out (by split <;> omega)
      · have hpo' : ¬ (n : Int) < os.length := by omega
        by_cases hpd : n < gs.length
        · have hpd' : (n : Int) < gs.length := by omega
          obtain ⟨gd, ofd, capd, ed, -, -, -⟩ := ZR.out.2.lits (by omega) (by omega)
          injection ed with ed1 _ ed3
          subst ed1 ed3
          have vd0 := cell_of_rf ZR.out.2 hpd
          have HTD := hid (show tcP os gs gs[n] from .inr (mem_take hpd h3 rfl))
          have KD := hid (show ∀ w2, Rf w2 1 (.slice (some ⟨gd, ofd, none⟩) gs.length q2) gs.length (gs.map Value.string) → w2.cell? ⟨gd, ofd + n, none⟩ = some (.string gs[n]) from fun w2 h => cell_of_rf h hpd)
          generalize gs[n] = kd at vd0 HTD KD
          go_enter Try.func24, Try.ntmps24
          go_upto_region 5 with (fail)
          rw [← HW.out]
          have vd1 := vd0
          have DE2 := hid (DE.out W1 t 0 kd SR.out (by omega) HTD.out)
          go_wp2_with fail
          go_region_held3 (fun wx => wx.cell? ⟨D, 0, none⟩ = some (.pointer (some ⟨p, 0, none⟩)) ∧ wx.cell? ⟨B + 1, 0, none⟩ = some (.slice (some ⟨gd, ofd, none⟩) gs.length q2) ∧ wx.cell? ⟨S + 1, 0, none⟩ = some (.int .i64 n) ∧ wx.cell? ⟨gd, ofd + n, none⟩ = some (.string kd))
            (first | (go_keep; done) | (exact X3.out))
            (first
              | (go_at_call 25
                 refine DE2.out.mono ?_
                 rintro e w3 ⟨u3, t3, rfl, N3⟩
                 have A3 := hid (AF.out w3 t3 0 N3.out)
                 have X3 := hid (show w3.cell? ⟨D, 0, none⟩ = some (.pointer (some ⟨p, 0, none⟩)) ∧ w3.cell? ⟨B + 1, 0, none⟩ = some (.slice (some ⟨gd, ofd, none⟩) gs.length q2) ∧ w3.cell? ⟨S + 1, 0, none⟩ = some (.int .i64 n) ∧ w3.cell? ⟨gd, ofd + n, none⟩ = some (.string kd) from ⟨A3.out.1, A3.out.2.2.1, A3.out.2.2.2.1, KD.out w3 A3.out.2.2.2.2.2.2.out.2⟩)))
          obtain ⟨d0, d1, d2, d3, d4, d5, DR⟩ := A3.out
          go_wp2
          exact FIN.out w3 t3 0 N3.out (by split <;> omega)
        · have hpd' : ¬ (n : Int) < gs.length := by omega
          go_enter Try.func24, Try.ntmps24
          go_upto_region 5 with (fail)
          rw [← HW.out]
          go_wp2
          exact FIN.out W1 t 0 SR.out (by split <;> omega)
    · exact absurd HN0.out (by omega)
  · have b00 : ((n : Int) == 0) = false := by rw [beq_eq_false_iff_ne]; omega
    have b01 : (!Op.bytesLess k.toList ls.toList && !(k.toList == ls.toList)) = true := by rw [gtr_eq]; exact HLS.out (by omega)
    clear HLS hn0
    by_cases h3 : n < 300
    · have h3' : (n : Int) < 300 := by omega
      by_cases hpo : n < os.length
      · have hpo' : (n : Int) < os.length := by omega
        by_cases hpd : n < gs.length
        · have hpd' : (n : Int) < gs.length := by omega
          obtain ⟨gb, off, cap', eo, -, -, -⟩ := ZR.out.1.lits (by omega) (by omega)
          injection eo with eo1 _ eo3
          subst eo1 eo3
          have v0 := cell_of_rf ZR.out.1 hpo
          have PU2 := hid (PU.out os[n] (HSZ.out _ (List.getElem_mem hpo)) (.inl (mem_take hpo h3 rfl)))
          obtain ⟨gd, ofd, capd, ed, -, -, -⟩ := ZR.out.2.lits (by omega) (by omega)
          injection ed with ed1 _ ed3
          subst ed1 ed3
          have vd0 := cell_of_rf ZR.out.2 hpd
          have HTD := hid (show tcP os gs gs[n] from .inr (mem_take hpd h3 rfl))
          have KO := hid (show ∀ w2, Rf w2 1 (.slice (some ⟨gb, off, none⟩) os.length q1) os.length (os.map Value.string) → w2.cell? ⟨gb, off + n, none⟩ = some (.string os[n]) from fun w2 h => cell_of_rf h hpo)
          generalize os[n] = ko at v0 PU2 KO
          go_enter Try.func24, Try.ntmps24
          go_upto_region 5 with (fail)
          rw [← HW.out]
          go_wp2_with fail
          go_region_held3 (fun wx => wx.cell? ⟨D, 0, none⟩ = some (.pointer (some ⟨p, 0, none⟩)) ∧ wx.cell? ⟨B, 0, none⟩ = some (.slice (some ⟨gb, off, none⟩) os.length q1) ∧ wx.cell? ⟨S + 1, 0, none⟩ = some (.int .i64 n) ∧ wx.cell? ⟨gb, off + n, none⟩ = some (.string ko))
            (first | (go_keep; done) | (exact X2.out))
            (first
              | (go_at_call 20
                 refine PU2.out.mono ?_
                 rintro e w2 ⟨u2, t2, rfl, N2⟩
                 have A2 := hid (AF.out w2 t2 1 N2.out)
                 have X2 := hid (show w2.cell? ⟨D, 0, none⟩ = some (.pointer (some ⟨p, 0, none⟩)) ∧ w2.cell? ⟨B, 0, none⟩ = some (.slice (some ⟨gb, off, none⟩) os.length q1) ∧ w2.cell? ⟨S + 1, 0, none⟩ = some (.int .i64 n) ∧ w2.cell? ⟨gb, off + n, none⟩ = some (.string ko) from ⟨A2.out.1, A2.out.2.1, A2.out.2.2.2.1, KO.out w2 A2.out.2.2.2.2.2.2.out.1⟩)))
          obtain ⟨b0, b1, b2, b3, b4, b5, BR⟩ := A2.out
          have KD := hid (show ∀ w2, Rf w2 1 (.slice (some ⟨gd, ofd, none⟩) gs.length q2) gs.length (gs.map Value.string) → w2.cell? ⟨gd, ofd + n, none⟩ = some (.string gs[n]) from fun w2 h => cell_of_rf h hpd)
          have vd1 := cell_of_rf BR.out.2 hpd
          generalize gs[n] = kd at vd1 vd0 HTD KD
          have DE2 := hid (DE.out w2 t2 1 kd N2.out (by omega) HTD.out)
          go_wp2_with fail
          go_region_held3 (fun wx => wx.cell? ⟨D, 0, none⟩ = some (.pointer (some ⟨p, 0, none⟩)) ∧ wx.cell? ⟨B + 1, 0, none⟩ = some (.slice (some ⟨gd, ofd, none⟩) gs.length q2) ∧ wx.cell? ⟨S + 1, 0, none⟩ = some (.int .i64 n) ∧ wx.cell? ⟨gd, ofd + n, none⟩ = some (.string kd))
            (first | (go_keep; done) | (exact X3.out))
            (first
              | (go_at_call 25
                 refine DE2.out.mono ?_
                 rintro e w3 ⟨u3, t3, rfl, N3⟩
                 have A3 := hid (AF.out w3 t3 1 N3.out)
                 have X3 := hid (show w3.cell? ⟨D, 0, none⟩ = some (.pointer (some ⟨p, 0, none⟩)) ∧ w3.cell? ⟨B + 1, 0, none⟩ = some (.slice (some ⟨gd, ofd, none⟩) gs.length q2) ∧ w3.cell? ⟨S + 1, 0, none⟩ = some (.int .i64 n) ∧ w3.cell? ⟨gd, ofd + n, none⟩ = some (.string kd) from ⟨A3.out.1, A3.out.2.2.1, A3.out.2.2.2.1, KD.out w3 A3.out.2.2.2.2.2.2.out.2⟩)))
          obtain ⟨d0, d1, d2, d3, d4, d5, DR⟩ := A3.out
          go_wp2
          exact FIN.out w3 t3 1 N3.out (by split <;> omega)
        · have hpd' : ¬ (n : Int) < gs.length := by omega
          obtain ⟨gb, off, cap', eo, -, -, -⟩ := ZR.out.1.lits (by omega) (by omega)
          injection eo with eo1 _ eo3
          subst eo1 eo3
          have v0 := cell_of_rf ZR.out.1 hpo
          have PU2 := hid (PU.out os[n] (HSZ.out _ (List.getElem_mem hpo)) (.inl (mem_take hpo h3 rfl)))
          have KO := hid (show ∀ w2, Rf w2 1 (.slice (some ⟨gb, off, none⟩) os.length q1) os.length (os.map Value.string) → w2.cell? ⟨gb, off + n, none⟩ = some (.string os[n]) from fun w2 h => cell_of_rf h hpo)
          generalize os[n] = ko at v0 PU2 KO
          go_enter Try.func24, Try.ntmps24
          go_upto_region 5 with (fail)
          rw [← HW.out]
          go_wp2_with fail
          go_region_held3 (fun wx => wx.cell? ⟨D, 0, none⟩ = some (.pointer (some ⟨p, 0, none⟩)) ∧ wx.cell? ⟨B, 0, none⟩ = some (.slice (some ⟨gb, off, none⟩) os.length q1) ∧ wx.cell? ⟨S + 1, 0, none⟩ = some (.int .i64 n) ∧ wx.cell? ⟨gb, off + n, none⟩ = some (.string ko))
            (first | (go_keep; done) | (exact X2.out))
            (first
              | (go_at_call 20
                 refine PU2.out.mono ?_
                 rintro e w2 ⟨u2, t2, rfl, N2⟩
                 have A2 := hid (AF.out w2 t2 1 N2.out)
                 have X2 := hid (show w2.cell? ⟨D, 0, none⟩ = some (.pointer (some ⟨p, 0, none⟩)) ∧ w2.cell? ⟨B, 0, none⟩ = some (.slice (some ⟨gb, off, none⟩) os.length q1) ∧ w2.cell? ⟨S + 1, 0, none⟩ = some (.int .i64 n) ∧ w2.cell? ⟨gb, off + n, none⟩ = some (.string ko) from ⟨A2.out.1, A2.out.2.1, A2.out.2.2.2.1, KO.out w2 A2.out.2.2.2.2.2.2.out.1⟩)))
          obtain ⟨b0, b1, b2, b3, b4, b5, BR⟩ := A2.out
          go_wp2
          exact FIN.out w2 t2 1 N2.out (by split <;> omega)
      · have hpo' : ¬ (n : Int) < os.length := by omega
        by_cases hpd : n < gs.length
        · have hpd' : (n : Int) < gs.length := by omega
          obtain ⟨gd, ofd, capd, ed, -, -, -⟩ := ZR.out.2.lits (by omega) (by omega)
          injection ed with ed1 _ ed3
          subst ed1 ed3
          have vd0 := cell_of_rf ZR.out.2 hpd
          have HTD := hid (show tcP os gs gs[n] from .inr (mem_take hpd h3 rfl))
          have KD := hid (show ∀ w2, Rf w2 1 (.slice (some ⟨gd, ofd, none⟩) gs.length q2) gs.length (gs.map Value.string) → w2.cell? ⟨gd, ofd + n, none⟩ = some (.string gs[n]) from fun w2 h => cell_of_rf h hpd)
          generalize gs[n] = kd at vd0 HTD KD
          go_enter Try.func24, Try.ntmps24
          go_upto_region 5 with (fail)
          rw [← HW.out]
          have vd1 := vd0
          have DE2 := hid (DE.out W1 t 0 kd SR.out (by omega) HTD.out)
          go_wp2_with fail
          go_region_held3 (fun wx => wx.cell? ⟨D, 0, none⟩ = some (.pointer (some ⟨p, 0, none⟩)) ∧ wx.cell? ⟨B + 1, 0, none⟩ = some (.slice (some ⟨gd, ofd, none⟩) gs.length q2) ∧ wx.cell? ⟨S + 1, 0, none⟩ = some (.int .i64 n) ∧ wx.cell? ⟨gd, ofd + n, none⟩ = some (.string kd))
            (first | (go_keep; done) | (exact X3.out))
            (first
              | (go_at_call 25
                 refine DE2.out.mono ?_
                 rintro e w3 ⟨u3, t3, rfl, N3⟩
                 have A3 := hid (AF.out w3 t3 0 N3.out)
                 have X3 := hid (show w3.cell? ⟨D, 0, none⟩ = some (.pointer (some ⟨p, 0, none⟩)) ∧ w3.cell? ⟨B + 1, 0, none⟩ = some (.slice (some ⟨gd, ofd, none⟩) gs.length q2) ∧ w3.cell? ⟨S + 1, 0, none⟩ = some (.int .i64 n) ∧ w3.cell? ⟨gd, ofd + n, none⟩ = some (.string kd) from ⟨A3.out.1, A3.out.2.2.1, A3.out.2.2.2.1, KD.out w3 A3.out.2.2.2.2.2.2.out.2⟩)))
          obtain ⟨d0, d1, d2, d3, d4, d5, DR⟩ := A3.out
          go_wp2
          exact FIN.out w3 t3 0 N3.out (by split <;> omega)
        · have hpd' : ¬ (n : Int) < gs.length := by omega
          go_enter Try.func24, Try.ntmps24
          go_upto_region 5 with (fail)
          rw [← HW.out]
          go_wp2
          exact FIN.out W1 t 0 SR.out (by split <;> omega)
    · have h3' : ¬ (n : Int) < 300 := by omega
      by_cases hpo : n < os.length
      · have hpo' : (n : Int) < os.length := by omega
        by_cases hpd : n < gs.length
        · have hpd' : (n : Int) < gs.length := by omega
          go_enter Try.func24, Try.ntmps24
          go_upto_region 5 with (fail)
          rw [← HW.out]
          go_wp2
          exact FIN.out W1 t 0 SR.out (by split <;> omega)
        · have hpd' : ¬ (n : Int) < gs.length := by omega
          go_enter Try.func24, Try.ntmps24
          go_upto_region 5 with (fail)
          rw [← HW.out]
          go_wp2
          exact FIN.out W1 t 0 SR.out (by split <;> omega)
      · have hpo' : ¬ (n : Int) < os.length := by omega
        by_cases hpd : n < gs.length
        · have hpd' : (n : Int) < gs.length := by omega
          go_enter Try.func24, Try.ntmps24
          go_upto_region 5 with (fail)
          rw [← HW.out]
          go_wp2
          exact FIN.out W1 t 0 SR.out (by split <;> omega)
        · have hpd' : ¬ (n : Int) < gs.length := by omega
          go_enter Try.func24, Try.ntmps24
          go_upto_region 5 with (fail)
          rw [← HW.out]
          go_wp2
          exact FIN.out W1 t 0 SR.out (by split <;> omega)

end Go.Proofs.Ytkalppcekmlgbab
