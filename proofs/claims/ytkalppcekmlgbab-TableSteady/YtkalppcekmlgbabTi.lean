import Derived.Test.YtkalppcekmlgbabTh
namespace Go.Proofs.Ytkalppcekmlgbab
open Go.RowKit

theorem rf_str (w : World) (k : ByteArray) : Rf (w.alloc (.cells #[.string k] 9)) 1 (.slice (some ⟨w.heap.size, 0, none⟩) 1 1) 1 [.string k] := by
  refine ⟨rfl, fun u hu => by simp at hu; subst hu; rfl, .inr ⟨_, _, rfl, Nat.le_refl _, by unfold maxLen; omega, fun j u hu => ?_⟩⟩
  rw [add_lit]
  have hj : j = 0 := by
    rcases Nat.lt_or_ge j 1 with h | h
    · omega
    · rw [List.getElem?_eq_none (by simpa using h)] at hu; cases hu
  subst hj
  simp at hu
  subst hu
  exact cells1 (hp_new w _)

theorem PutP.undrew {w w' : World} {p : Nat} {t t' : Tr} {key : ByteArray} {u : Value} (h : PutP w.drew w' p t t' key u) : PutP w w' p t t' key u := ⟨h.tb, h.kp.undrew, h.nw, h.ls⟩

theorem std_new {w w1 : World} {ov gv : Value} (ht : Tb w1 (twoG w ov gv).heap.size .nil) (hb : Below (twoG w ov gv).heap.size (twoG w ov gv) w1) (hs : w1.heap.size = (twoG w ov gv).heap.size + 1) : V1 w (w1.alloc (.cells #[.pointer (some ⟨w.heap.size + 2, 0, none⟩)] 49)) w1.heap.size ov gv 0 .nil := by
  rw [twoG_size] at ht hs
  have hb' := hb
  rw [twoG_size] at hb'
  have hz := hp_lt ht.blk
  have b2 := below_new w1 (.cells #[.pointer (some ⟨w.heap.size + 2, 0, none⟩)] 49)
  refine ⟨⟨?_, ?_, hp_new _ _, ht.below b2, fun i hi => (by cases hi), below_on (below_on (twoG_below w ov gv) hb) b2, by omega⟩, fun e he => (by cases he), Nat.le_refl _⟩
  · refine hp_below (hp_below (?_ : (twoG w ov gv).heap[w.heap.size]? = _) hb' (by omega)) b2 (by omega)
    exact hp_alloc (hp_new _ _) _
  · refine hp_below (hp_below (?_ : (twoG w ov gv).heap[w.heap.size + 1]? = _) hb' (by omega)) b2 (by omega)
    exact atN _ (by simp)

set_option maxRecDepth 100000 in
set_option maxHeartbeats 16000000 in
theorem steady_any (kv ov gv : Value) (ks os gs : List ByteArray) (w : World) (hr : Rf w 1 kv ks.length (ks.map Value.string)) (hsh : ∀ q ∈ ks, q.size ≤ 281474976710656) (ho : Rf w 1 ov os.length (os.map Value.string)) (hso : ∀ q ∈ os, q.size ≤ 281474976710656) (hgo : Rf w 1 gv gs.length (gs.map Value.string)) :
    Calls Try.prog 5 #[kv, ov, gv] w fun x w' => x = .returned (.bool true) ∧ Below w.heap.size w w' := by
  obtain ⟨a1, q1, e1, -, -⟩ := hr.shape
  obtain ⟨a2, q2, e2, -, -⟩ := ho.shape
  obtain ⟨a3, q3, e3, -, -⟩ := hgo.shape
  have KN := hid known_any
  have NW := hid (new_any (twoG w ov gv))
  have HA := hid (And.intro hr hsh)
  have HO := hid (And.intro ho (And.intro hso hgo))
  have hmf : ∀ (fn : Fn) (first cap : Array Value) (w : World), (Instr.makeFunc fn first cap).run Try.prog w = .ok (.func fn first cap) w := fun _ _ _ _ => rfl
  have hEq := fnNilT
  subst e1 e2 e3
  clear hr hsh ho hso hgo
  go_enter Try.func5, Try.ntmps5
  go_wp2_with (
    go_at_call 19
    refine NW.out.mono ?_
    rintro e w1 ⟨e1, ht1, hb1, hs1⟩
    have N1 := hid (std_new ht1 hb1 hs1)
    rw [twoG_size] at e1
    subst e1
    clear ht1 hb1 hs1 NW)
  go_loopw [9] (fun i wr => ∃ (k : Nat) (t : Tr), i = .int .i64 k ∧ k ≤ ks.length ∧ k ≤ 300 ∧ Hid (V1 w wr w1.heap.size (.slice a2 os.length q2) (.slice a3 gs.length q3) k t)) (fun i _ => 300 - (intOf i).toNat)
  case atStart => exact ⟨0, .nil, rfl, Nat.zero_le _, Nat.zero_le _, N1⟩
  case round =>
    obtain ⟨k, T, rfl, hk, hk3, hq⟩ := hrel
    have c0 := cells1 hq.out.vq.bt
    by_cases h12 : k < ks.length ∧ k < 300
    · obtain ⟨h1, h2⟩ := h12
      have h2' : (k : Int) < 300 := by omega
      have h1' : (k : Int) < ks.length := by omega
      obtain ⟨gb, off, cap', hbody2, -, -, hcell⟩ := (HA.out.1.below hq.out.vq.bl).lits (by omega) (by omega)
      injection hbody2 with hb3 hb4 hb5
      subst hb3 hb5
      have v0 := hcell k (.string ks[k]) (by rw [List.getElem?_map, List.getElem?_eq_getElem h1]; rfl)
      have hne : ks.map Value.string ≠ [] := fun e => absurd (congrArg List.length e) (by rw [List.length_map]; simp only [List.length_nil]; omega)
      have hgb : gb < w.heap.size := HA.out.1.there hne gb rfl
      have hsz : ks[k].size ≤ 281474976710656 := HA.out.2 _ (List.getElem_mem h1)
      generalize ks[k] = key at v0 hsz
      have PU := hid (put_any (w.heap.size + 2) key 0 T wr.drew (hq.out.vq.tb.below (Below.refl _ _).drew) (by have := hq.out.ln; unfold Tr.n; omega) hsz)
      have AF := hid (show ∀ w2 t', PutP wr w2 (w.heap.size + 2) T t' key (.int .i64 0) → V1 w w2 w1.heap.size (.slice a2 os.length q2) (.slice a3 gs.length q3) (k + 1) t' ∧ w2.cell? ⟨w1.heap.size, 0, none⟩ = some (.pointer (some ⟨w.heap.size + 2, 0, none⟩)) ∧ w2.cell? ⟨gb, off + k, none⟩ = some (.string key) from by
        intro w2 t' hp
        have sp := hq.out.put hp hsz
        refine ⟨sp, cells1 sp.vq.bt, ?_⟩
        exact (sp.vq.bl.cell (p := ⟨gb, off + k, none⟩) hgb).trans ((hq.out.vq.bl.cell (p := ⟨gb, off + k, none⟩) hgb).symm.trans v0))
      clear hcell hb4 hsz hmf hEq hgb hne
      go_wp2_with fail
      go_region_held3 (fun wx => wx.cell? ⟨w1.heap.size, 0, none⟩ = some (.pointer (some ⟨w.heap.size + 2, 0, none⟩)) ∧ wx.cell? ⟨gb, off + k, none⟩ = some (.string key))
        (first | (go_keep; done) | (exact AF2.out.2))
        (first
          | (go_at_call 20
             refine PU.out.mono ?_
             rintro e w2 ⟨t', rfl, hp⟩
             have AF2 := hid (AF.out w2 t' hp.undrew)
             clear hp))
      go_wp2
      go_roundw
      case rel => exact ⟨k + 1, t', by go_num, by omega, by omega, hid AF2.out.1⟩
      case measure => simp [intOf]; omega
    · have N2 := hid (hq.out.two os gs hk3)
      by_cases h1 : k < ks.length
      · have h2' : ¬ (k : Int) < 300 := by omega
        clear h12 c0
        go_wp2_with fail
        clear hq hk hk3
        go_loopw [8, 11] (fun sv i wr => ∃ (k2 s : Nat) (ao : Option Addr) (cc : Nat) (t : Tr), sv = .slice ao s cc ∧ i = .int .i64 k2 ∧ k2 ≤ ks.length ∧ k2 ≤ 300 ∧ s ≤ k2 ∧ Hid (V2 w wr w1.heap.size (.slice a2 os.length q2) (.slice a3 gs.length q3) os gs k2 s t (.slice ao s cc))) (fun _ i _ => 300 - (intOf i).toNat)
        case atStart => exact ⟨0, 0, none, 0, T, rfl, rfl, Nat.zero_le _, Nat.zero_le _, Nat.zero_le _, N2⟩
        case round =>
          obtain ⟨k2, s, ao, cc, t, rfl, rfl, hk, hk3, hsk, hq⟩ := hrel
          have c0 := cells1 hq.out.vq.bt
          by_cases h12 : k2 < ks.length ∧ k2 < 300
          · obtain ⟨h3, h4⟩ := h12
            have h4' : (k2 : Int) < 300 := by omega
            have h3' : (k2 : Int) < ks.length := by omega
            obtain ⟨gb, off, cap', hbody2, -, -, hcell⟩ := (HA.out.1.below hq.out.vq.bl).lits (by omega) (by omega)
            injection hbody2 with hb3 hb4 hb5
            subst hb3 hb5
            have v0 := hcell k2 (.string ks[k2]) (by rw [List.getElem?_map, List.getElem?_eq_getElem h3]; rfl)
            have hne : ks.map Value.string ≠ [] := fun e => absurd (congrArg List.length e) (by rw [List.length_map]; simp only [List.length_nil]; omega)
            have hgb : gb < w.heap.size := HA.out.1.there hne gb rfl
            have hsz : ks[k2].size ≤ 281474976710656 := HA.out.2 _ (List.getElem_mem h3)
            generalize ks[k2] = key at v0 hsz
            have CW := hid (show ∀ W, Below w.heap.size w W → W.cell? ⟨gb, off + k2, none⟩ = some (.string key) from fun W hb => (hb.cell (p := ⟨gb, off + k2, none⟩) hgb).trans ((hq.out.vq.bl.cell (p := ⟨gb, off + k2, none⟩) hgb).symm.trans v0))
            have GT := hid (show ∀ v, getV key t.toL = v → Calls Try.prog 22 #[.pointer (some ⟨w.heap.size + 2, 0, none⟩), .string key] wr.drew fun x w' => x = .returned v ∧ Hid (Below wr.heap.size wr w') from fun v hv => by
              refine (get_any (some ⟨w.heap.size + 2, 0, none⟩) key t wr.drew (.inr ⟨_, rfl, hq.out.vq.tb.below (Below.refl _ _).drew⟩)).mono ?_
              rintro x w' ⟨rfl, hb⟩
              exact ⟨by rw [hv], hid (undrew hb)⟩)
            have TC := hid (show ∀ w2, Below wr.heap.size wr w2 → Calls Try.prog 21 #[.string key, .pointer (some ⟨w.heap.size, 0, none⟩), .pointer (some ⟨w.heap.size + 1, 0, none⟩)] w2 (TouP os gs key w2) from fun w2 hb => by
              have v2 := hq.out.vq.below hb
              exact touched_any w.heap.size _ _ os gs key w2 v2.bo v2.bg (HO.out.1.below v2.bl) (HO.out.2.2.below v2.bl))
            have C2 := hid (show ∀ w2, Below wr.heap.size wr w2 → w2.cell? ⟨w1.heap.size, 0, none⟩ = some (.pointer (some ⟨w.heap.size + 2, 0, none⟩)) ∧ w2.cell? ⟨gb, off + k2, none⟩ = some (.string key) from fun w2 hb => ⟨cells1 (hq.out.vq.below hb).bt, CW.out w2 (hq.out.vq.below hb).bl⟩)
            clear hcell hb4 hmf hEq hgb hne
            cases hen : ent key t.toL with
            | none =>
              have GT2 := hid (GT.out _ (show getV key t.toL = .tuple #[.int .i64 0, .bool false] by rw [getV, hen]))
              clear GT hen
              go_wp2_with fail
              go_region_held3 (fun wx => wx.cell? ⟨w1.heap.size, 0, none⟩ = some (.pointer (some ⟨w.heap.size + 2, 0, none⟩)) ∧ wx.cell? ⟨gb, off + k2, none⟩ = some (.string key))
                (first | (go_keep; done) | (exact X2.out))
                (first
                  | (go_at_call 22
                     refine GT2.out.mono ?_
                     rintro e w2 ⟨rfl, B2⟩
                     have X2 := hid (C2.out w2 B2.out)))
              obtain ⟨d0, d1⟩ := X2.out
              go_wp2
              go_roundw
              case rel => exact ⟨k2 + 1, s, ao, cc, t, rfl, by go_num, by omega, by omega, by omega, hid (hq.out.skip B2.out)⟩
              case measure => simp [intOf]; omega
            | some c =>
              obtain ⟨vv, hvv⟩ := hq.out.gd.iv c (ent_some hen).1
              have GT2 := hid (GT.out _ (show getV key t.toL = .tuple #[.int .i64 vv, .bool true] by rw [getV, hen]; show Value.tuple #[c.2.2, .bool true] = _; rw [hvv]))
              have HEN := hid (And.intro hen hvv)
              clear GT hen hvv
              by_cases hv0 : vv = 0
              · have bv : (vv == 0) = true := by rw [beq_iff_eq]; exact hv0
                have HV := hid hv0
                clear hv0
                obtain ⟨xs, hox⟩ := hq.out.ow
                have HOX := hid hox
                clear hox
                by_cases htc : tcP os gs key
                · have TC2 := hid (show ∀ w2, Below wr.heap.size wr w2 → Calls Try.prog 21 #[.string key, .pointer (some ⟨w.heap.size, 0, none⟩), .pointer (some ⟨w.heap.size + 1, 0, none⟩)] w2 fun x w' => x = .returned (.bool true) ∧ w' = w2 from fun w2 hb => (TC.out w2 hb).mono (by
                    rintro e w3 ⟨⟨r, rfl, hrt⟩, rfl⟩
                    exact ⟨by rw [hrt.2 htc], rfl⟩))
                  clear TC htc
                  go_wp2_with fail
                  go_region_held3 (fun wx => wx.cell? ⟨w1.heap.size, 0, none⟩ = some (.pointer (some ⟨w.heap.size + 2, 0, none⟩)) ∧ wx.cell? ⟨gb, off + k2, none⟩ = some (.string key))
                    (first | (go_keep; done) | (exact X2.out))
                    (first
                      | (go_at_call 22
                         refine GT2.out.mono ?_
                         rintro e w2 ⟨rfl, B2⟩
                         have X2 := hid (C2.out w2 B2.out)))
                  obtain ⟨d0, d1⟩ := X2.out
                  go_wp2_with (
                    go_at_call 21
                    refine (TC2.out w2 B2.out).mono ?_
                    rintro e w3 ⟨rfl, e3⟩
                    rw [e3]
                    clear e3 w3)
                  go_roundw
                  case rel => exact ⟨k2 + 1, s, ao, cc, t, rfl, by go_num, by omega, by omega, by omega, hid (hq.out.skip B2.out)⟩
                  case measure => simp [intOf]; omega
                · have TC2 := hid (show ∀ w2, Below wr.heap.size wr w2 → Calls Try.prog 21 #[.string key, .pointer (some ⟨w.heap.size, 0, none⟩), .pointer (some ⟨w.heap.size + 1, 0, none⟩)] w2 fun x w' => x = .returned (.bool false) ∧ w' = w2 from fun w2 hb => (TC.out w2 hb).mono (by
                    rintro e w3 ⟨⟨r, rfl, hrt⟩, rfl⟩
                    cases r
                    · exact ⟨rfl, rfl⟩
                    · exact absurd (hrt.1 rfl) htc))
                  have HTC := hid htc
                  clear TC htc
                  go_wp2_with fail
                  go_region_held3 (fun wx => wx.cell? ⟨w1.heap.size, 0, none⟩ = some (.pointer (some ⟨w.heap.size + 2, 0, none⟩)) ∧ wx.cell? ⟨gb, off + k2, none⟩ = some (.string key))
                    (first | (go_keep; done) | (exact X2.out))
                    (first
                      | (go_at_call 22
                         refine GT2.out.mono ?_
                         rintro e w2 ⟨rfl, B2⟩
                         have X2 := hid (C2.out w2 B2.out)))
                  obtain ⟨d0, d1⟩ := X2.out
                  go_wp2_with (first
                    | (go_at_call 21
                       refine (TC2.out w2 B2.out).mono ?_
                       rintro e w3 ⟨rfl, e3⟩
                       rw [e3]
                       clear e3 w3)
                    | (at_builtin
                       refine wpList_append_rf (w2.alloc (.cells #[.string key] 9)) rfl (.tmp 72) (.tmp 77) 22 9 _ 1 16 rfl Try.underlying22 Try.info9 rfl (by omega) w.heap.size (.slice ao s cc) s xs rfl (ownsRow_kept HOX.out ((Kept.ofBelow B2.out).alloc _) (fun _ _ e => e)) (.slice (some ⟨w2.heap.size, 0, none⟩) 1 1) 1 [.string key] rfl (rf_str w2 key) (by omega) (by unfold maxLen; omega) (by have := hq.out.vq.bl.size; have := B2.out.size; simp; omega) ?_
                       intro a9 q9 w9 ho9 hg9 hat9
                       have K9 := hid (show Kept (fun j => (Value.slice ao s cc).ownBlock = some j) wr w9 from (((Kept.ofBelow B2.out).mono (fun _ _ e => e.elim)).alloc _).grown hg9.out (fun _ _ e => e))
                       have O9 := hid ho9.out
                       have Q9 := hid (hq.out.vq.grown HOX.out K9.out)
                       have f0 := cells1 Q9.out.bt
                       have f1 := CW.out w9 Q9.out.bl
                       have PU9 := hid (put_any (w.heap.size + 2) key 1 t w9.drew (Q9.out.tb.below (Below.refl _ _).drew) (by have := hq.out.ln; unfold Tr.n; omega) hsz)
                       clear ho9 hg9 hat9))
                  go_region_held3 (fun wx => wx.cell? ⟨w1.heap.size, 0, none⟩ = some (.pointer (some ⟨w.heap.size + 2, 0, none⟩)) ∧ wx.cell? ⟨gb, off + k2, none⟩ = some (.string key))
                    (first | (go_keep; done) | (exact X4.out))
                    (first
                      | (go_at_call 20
                         refine PU9.out.mono ?_
                         rintro e w4 ⟨t', rfl, hp⟩
                         have N4 := hid (hq.out.more HOX.out K9.out O9.out hp.undrew HEN.out.1 (by unfold is1; rw [HEN.out.2, HV.out]; rfl) HTC.out hsz)
                         have X4 := hid (show w4.cell? ⟨w1.heap.size, 0, none⟩ = some (.pointer (some ⟨w.heap.size + 2, 0, none⟩)) ∧ w4.cell? ⟨gb, off + k2, none⟩ = some (.string key) from ⟨cells1 N4.out.vq.bt, CW.out w4 N4.out.vq.bl⟩)
                         clear hp))
                  go_wp2
                  go_roundw
                  case rel => exact ⟨k2 + 1, s + 1, a9, q9, t', rfl, by go_num, by omega, by omega, by omega, N4⟩
                  case measure => simp [intOf]; omega
              · have bv : (vv == 0) = false := by rw [beq_eq_false_iff_ne]; exact hv0
                clear hv0
                go_wp2_with fail
                go_region_held3 (fun wx => wx.cell? ⟨w1.heap.size, 0, none⟩ = some (.pointer (some ⟨w.heap.size + 2, 0, none⟩)) ∧ wx.cell? ⟨gb, off + k2, none⟩ = some (.string key))
                  (first | (go_keep; done) | (exact X2.out))
                  (first
                    | (go_at_call 22
                       refine GT2.out.mono ?_
                       rintro e w2 ⟨rfl, B2⟩
                       have X2 := hid (C2.out w2 B2.out)))
                obtain ⟨d0, d1⟩ := X2.out
                go_wp2
                go_roundw
                case rel => exact ⟨k2 + 1, s, ao, cc, t, rfl, by go_num, by omega, by omega, by omega, hid (hq.out.skip B2.out)⟩
                case measure => simp [intOf]; omega
          · have RG := hid (range_any (some ⟨w.heap.size + 2, 0, none⟩) ⟨#[]⟩ ⟨#[]⟩ (fourT wr) (by decide) (by decide))
            have IT := hid (fun (w1' : World) (g1 g2 g3 : Nat) hi hb hg => std_iter (w1 := w1') (g1 := g1) (g2 := g2) (g3 := g3) hq.out HO.out.1 HO.out.2.2 HO.out.2.1 hi hb hg)
            have e0 := ((fourT_below wr).cell (p := ⟨w1.heap.size, 0, none⟩) (hp_lt hq.out.vq.bt)).trans c0
            simp only [itV] at RG
            have bcc : ((s : Int) == (s : Int)) = true := by simp
            by_cases h3 : k2 < ks.length
            · have h4' : ¬ (k2 : Int) < 300 := by omega
              clear h12
              go_wp2_with (first
                | (go_at_call 23
                   refine RG.out.mono ?_
                   rintro e w5 ⟨g1, g2, g3, rfl, hi, hb, hg1, hg2, hg3⟩
                   have I2 := hid (IT.out w5 g1 g2 g3 hi hb ⟨hg1, hg2, hg3⟩)
                   clear hi hb hg1 hg2 hg3 RG IT)
                | (go_at_call 40
                   refine I2.out.mono ?_
                   rintro e w6 ⟨rfl, bn, bo, HB⟩
                   have f0 := cells1 bn
                   have f1 := cells1 bo
                   have K3 := hid (KN.out w6)
                   clear bn bo I2)
                | (go_at_call 10
                   refine K3.out.mono ?_
                   rintro e w7 ⟨rfl, hb7⟩
                   have B7 := hid hb7
                   clear hb7))
              go_ret
              exact ⟨rfl, below_on HB.out B7.out⟩
            · clear h12
              go_upto_region 17 with (fail)
              clear h3 hk hk3 hsk
              go_wp2_with (first
                | (go_at_call 23
                   refine RG.out.mono ?_
                   rintro e w5 ⟨g1, g2, g3, rfl, hi, hb, hg1, hg2, hg3⟩
                   have I2 := hid (IT.out w5 g1 g2 g3 hi hb ⟨hg1, hg2, hg3⟩)
                   clear hi hb hg1 hg2 hg3 RG IT)
                | (go_at_call 40
                   refine I2.out.mono ?_
                   rintro e w6 ⟨rfl, bn, bo, HB⟩
                   have f0 := cells1 bn
                   have f1 := cells1 bo
                   have K3 := hid (KN.out w6)
                   clear bn bo I2)
                | (go_at_call 10
                   refine K3.out.mono ?_
                   rintro e w7 ⟨rfl, hb7⟩
                   have B7 := hid hb7
                   clear hb7))
              go_ret
              exact ⟨rfl, below_on HB.out B7.out⟩
      · clear h12 c0
        go_wp2_with fail
        clear hq hk hk3
        go_loopw [8, 11] (fun sv i wr => ∃ (k2 s : Nat) (ao : Option Addr) (cc : Nat) (t : Tr), sv = .slice ao s cc ∧ i = .int .i64 k2 ∧ k2 ≤ ks.length ∧ k2 ≤ 300 ∧ s ≤ k2 ∧ Hid (V2 w wr w1.heap.size (.slice a2 os.length q2) (.slice a3 gs.length q3) os gs k2 s t (.slice ao s cc))) (fun _ i _ => 300 - (intOf i).toNat)
        case atStart => exact ⟨0, 0, none, 0, T, rfl, rfl, Nat.zero_le _, Nat.zero_le _, Nat.zero_le _, N2⟩
        case round =>
          obtain ⟨k2, s, ao, cc, t, rfl, rfl, hk, hk3, hsk, hq⟩ := hrel
          have c0 := cells1 hq.out.vq.bt
          by_cases h12 : k2 < ks.length ∧ k2 < 300
          · obtain ⟨h3, h4⟩ := h12
            have h4' : (k2 : Int) < 300 := by omega
            have h3' : (k2 : Int) < ks.length := by omega
            obtain ⟨gb, off, cap', hbody2, -, -, hcell⟩ := (HA.out.1.below hq.out.vq.bl).lits (by omega) (by omega)
            injection hbody2 with hb3 hb4 hb5
            subst hb3 hb5
            have v0 := hcell k2 (.string ks[k2]) (by rw [List.getElem?_map, List.getElem?_eq_getElem h3]; rfl)
            have hne : ks.map Value.string ≠ [] := fun e => absurd (congrArg List.length e) (by rw [List.length_map]; simp only [List.length_nil]; omega)
            have hgb : gb < w.heap.size := HA.out.1.there hne gb rfl
            have hsz : ks[k2].size ≤ 281474976710656 := HA.out.2 _ (List.getElem_mem h3)
            generalize ks[k2] = key at v0 hsz
            have CW := hid (show ∀ W, Below w.heap.size w W → W.cell? ⟨gb, off + k2, none⟩ = some (.string key) from fun W hb => (hb.cell (p := ⟨gb, off + k2, none⟩) hgb).trans ((hq.out.vq.bl.cell (p := ⟨gb, off + k2, none⟩) hgb).symm.trans v0))
            have GT := hid (show ∀ v, getV key t.toL = v → Calls Try.prog 22 #[.pointer (some ⟨w.heap.size + 2, 0, none⟩), .string key] wr.drew fun x w' => x = .returned v ∧ Hid (Below wr.heap.size wr w') from fun v hv => by
              refine (get_any (some ⟨w.heap.size + 2, 0, none⟩) key t wr.drew (.inr ⟨_, rfl, hq.out.vq.tb.below (Below.refl _ _).drew⟩)).mono ?_
              rintro x w' ⟨rfl, hb⟩
              exact ⟨by rw [hv], hid (undrew hb)⟩)
            have TC := hid (show ∀ w2, Below wr.heap.size wr w2 → Calls Try.prog 21 #[.string key, .pointer (some ⟨w.heap.size, 0, none⟩), .pointer (some ⟨w.heap.size + 1, 0, none⟩)] w2 (TouP os gs key w2) from fun w2 hb => by
              have v2 := hq.out.vq.below hb
              exact touched_any w.heap.size _ _ os gs key w2 v2.bo v2.bg (HO.out.1.below v2.bl) (HO.out.2.2.below v2.bl))
            have C2 := hid (show ∀ w2, Below wr.heap.size wr w2 → w2.cell? ⟨w1.heap.size, 0, none⟩ = some (.pointer (some ⟨w.heap.size + 2, 0, none⟩)) ∧ w2.cell? ⟨gb, off + k2, none⟩ = some (.string key) from fun w2 hb => ⟨cells1 (hq.out.vq.below hb).bt, CW.out w2 (hq.out.vq.below hb).bl⟩)
            clear hcell hb4 hmf hEq hgb hne
            cases hen : ent key t.toL with
            | none =>
              have GT2 := hid (GT.out _ (show getV key t.toL = .tuple #[.int .i64 0, .bool false] by rw [getV, hen]))
              clear GT hen
              go_wp2_with fail
              go_region_held3 (fun wx => wx.cell? ⟨w1.heap.size, 0, none⟩ = some (.pointer (some ⟨w.heap.size + 2, 0, none⟩)) ∧ wx.cell? ⟨gb, off + k2, none⟩ = some (.string key))
                (first | (go_keep; done) | (exact X2.out))
                (first
                  | (go_at_call 22
                     refine GT2.out.mono ?_
                     rintro e w2 ⟨rfl, B2⟩
                     have X2 := hid (C2.out w2 B2.out)))
              obtain ⟨d0, d1⟩ := X2.out
              go_wp2
              go_roundw
              case rel => exact ⟨k2 + 1, s, ao, cc, t, rfl, by go_num, by omega, by omega, by omega, hid (hq.out.skip B2.out)⟩
              case measure => simp [intOf]; omega
            | some c =>
              obtain ⟨vv, hvv⟩ := hq.out.gd.iv c (ent_some hen).1
              have GT2 := hid (GT.out _ (show getV key t.toL = .tuple #[.int .i64 vv, .bool true] by rw [getV, hen]; show Value.tuple #[c.2.2, .bool true] = _; rw [hvv]))
              have HEN := hid (And.intro hen hvv)
              clear GT hen hvv
              by_cases hv0 : vv = 0
              · have bv : (vv == 0) = true := by rw [beq_iff_eq]; exact hv0
                have HV := hid hv0
                clear hv0
                obtain ⟨xs, hox⟩ := hq.out.ow
                have HOX := hid hox
                clear hox
                by_cases htc : tcP os gs key
                · have TC2 := hid (show ∀ w2, Below wr.heap.size wr w2 → Calls Try.prog 21 #[.string key, .pointer (some ⟨w.heap.size, 0, none⟩), .pointer (some ⟨w.heap.size + 1, 0, none⟩)] w2 fun x w' => x = .returned (.bool true) ∧ w' = w2 from fun w2 hb => (TC.out w2 hb).mono (by
                    rintro e w3 ⟨⟨r, rfl, hrt⟩, rfl⟩
                    exact ⟨by rw [hrt.2 htc], rfl⟩))
                  clear TC htc
                  go_wp2_with fail
                  go_region_held3 (fun wx => wx.cell? ⟨w1.heap.size, 0, none⟩ = some (.pointer (some ⟨w.heap.size + 2, 0, none⟩)) ∧ wx.cell? ⟨gb, off + k2, none⟩ = some (.string key))
                    (first | (go_keep; done) | (exact X2.out))
                    (first
                      | (go_at_call 22
                         refine GT2.out.mono ?_
                         rintro e w2 ⟨rfl, B2⟩
                         have X2 := hid (C2.out w2 B2.out)))
                  obtain ⟨d0, d1⟩ := X2.out
                  go_wp2_with (
                    go_at_call 21
                    refine (TC2.out w2 B2.out).mono ?_
                    rintro e w3 ⟨rfl, e3⟩
                    rw [e3]
                    clear e3 w3)
                  go_roundw
                  case rel => exact ⟨k2 + 1, s, ao, cc, t, rfl, by go_num, by omega, by omega, by omega, hid (hq.out.skip B2.out)⟩
                  case measure => simp [intOf]; omega
                · have TC2 := hid (show ∀ w2, Below wr.heap.size wr w2 → Calls Try.prog 21 #[.string key, .pointer (some ⟨w.heap.size, 0, none⟩), .pointer (some ⟨w.heap.size + 1, 0, none⟩)] w2 fun x w' => x = .returned (.bool false) ∧ w' = w2 from fun w2 hb => (TC.out w2 hb).mono (by
                    rintro e w3 ⟨⟨r, rfl, hrt⟩, rfl⟩
                    cases r
                    · exact ⟨rfl, rfl⟩
                    · exact absurd (hrt.1 rfl) htc))
                  have HTC := hid htc
                  clear TC htc
                  go_wp2_with fail
                  go_region_held3 (fun wx => wx.cell? ⟨w1.heap.size, 0, none⟩ = some (.pointer (some ⟨w.heap.size + 2, 0, none⟩)) ∧ wx.cell? ⟨gb, off + k2, none⟩ = some (.string key))
                    (first | (go_keep; done) | (exact X2.out))
                    (first
                      | (go_at_call 22
                         refine GT2.out.mono ?_
                         rintro e w2 ⟨rfl, B2⟩
                         have X2 := hid (C2.out w2 B2.out)))
                  obtain ⟨d0, d1⟩ := X2.out
                  go_wp2_with (first
                    | (go_at_call 21
                       refine (TC2.out w2 B2.out).mono ?_
                       rintro e w3 ⟨rfl, e3⟩
                       rw [e3]
                       clear e3 w3)
                    | (at_builtin
                       refine wpList_append_rf (w2.alloc (.cells #[.string key] 9)) rfl (.tmp 72) (.tmp 77) 22 9 _ 1 16 rfl Try.underlying22 Try.info9 rfl (by omega) w.heap.size (.slice ao s cc) s xs rfl (ownsRow_kept HOX.out ((Kept.ofBelow B2.out).alloc _) (fun _ _ e => e)) (.slice (some ⟨w2.heap.size, 0, none⟩) 1 1) 1 [.string key] rfl (rf_str w2 key) (by omega) (by unfold maxLen; omega) (by have := hq.out.vq.bl.size; have := B2.out.size; simp; omega) ?_
                       intro a9 q9 w9 ho9 hg9 hat9
                       have K9 := hid (show Kept (fun j => (Value.slice ao s cc).ownBlock = some j) wr w9 from (((Kept.ofBelow B2.out).mono (fun _ _ e => e.elim)).alloc _).grown hg9.out (fun _ _ e => e))
                       have O9 := hid ho9.out
                       have Q9 := hid (hq.out.vq.grown HOX.out K9.out)
                       have f0 := cells1 Q9.out.bt
                       have f1 := CW.out w9 Q9.out.bl
                       have PU9 := hid (put_any (w.heap.size + 2) key 1 t w9.drew (Q9.out.tb.below (Below.refl _ _).drew) (by have := hq.out.ln; unfold Tr.n; omega) hsz)
                       clear ho9 hg9 hat9))
                  go_region_held3 (fun wx => wx.cell? ⟨w1.heap.size, 0, none⟩ = some (.pointer (some ⟨w.heap.size + 2, 0, none⟩)) ∧ wx.cell? ⟨gb, off + k2, none⟩ = some (.string key))
                    (first | (go_keep; done) | (exact X4.out))
                    (first
                      | (go_at_call 20
                         refine PU9.out.mono ?_
                         rintro e w4 ⟨t', rfl, hp⟩
                         have N4 := hid (hq.out.more HOX.out K9.out O9.out hp.undrew HEN.out.1 (by unfold is1; rw [HEN.out.2, HV.out]; rfl) HTC.out hsz)
                         have X4 := hid (show w4.cell? ⟨w1.heap.size, 0, none⟩ = some (.pointer (some ⟨w.heap.size + 2, 0, none⟩)) ∧ w4.cell? ⟨gb, off + k2, none⟩ = some (.string key) from ⟨cells1 N4.out.vq.bt, CW.out w4 N4.out.vq.bl⟩)
                         clear hp))
                  go_wp2
                  go_roundw
                  case rel => exact ⟨k2 + 1, s + 1, a9, q9, t', rfl, by go_num, by omega, by omega, by omega, N4⟩
                  case measure => simp [intOf]; omega
              · have bv : (vv == 0) = false := by rw [beq_eq_false_iff_ne]; exact hv0
                clear hv0
                go_wp2_with fail
                go_region_held3 (fun wx => wx.cell? ⟨w1.heap.size, 0, none⟩ = some (.pointer (some ⟨w.heap.size + 2, 0, none⟩)) ∧ wx.cell? ⟨gb, off + k2, none⟩ = some (.string key))
                  (first | (go_keep; done) | (exact X2.out))
                  (first
                    | (go_at_call 22
                       refine GT2.out.mono ?_
                       rintro e w2 ⟨rfl, B2⟩
                       have X2 := hid (C2.out w2 B2.out)))
                obtain ⟨d0, d1⟩ := X2.out
                go_wp2
                go_roundw
                case rel => exact ⟨k2 + 1, s, ao, cc, t, rfl, by go_num, by omega, by omega, by omega, hid (hq.out.skip B2.out)⟩
                case measure => simp [intOf]; omega
          · have RG := hid (range_any (some ⟨w.heap.size + 2, 0, none⟩) ⟨#[]⟩ ⟨#[]⟩ (fourT wr) (by decide) (by decide))
            have IT := hid (fun (w1' : World) (g1 g2 g3 : Nat) hi hb hg => std_iter (w1 := w1') (g1 := g1) (g2 := g2) (g3 := g3) hq.out HO.out.1 HO.out.2.2 HO.out.2.1 hi hb hg)
            have e0 := ((fourT_below wr).cell (p := ⟨w1.heap.size, 0, none⟩) (hp_lt hq.out.vq.bt)).trans c0
            simp only [itV] at RG
            have bcc : ((s : Int) == (s : Int)) = true := by simp
            by_cases h3 : k2 < ks.length
            · have h4' : ¬ (k2 : Int) < 300 := by omega
              clear h12
              go_wp2_with (first
                | (go_at_call 23
                   refine RG.out.mono ?_
                   rintro e w5 ⟨g1, g2, g3, rfl, hi, hb, hg1, hg2, hg3⟩
                   have I2 := hid (IT.out w5 g1 g2 g3 hi hb ⟨hg1, hg2, hg3⟩)
                   clear hi hb hg1 hg2 hg3 RG IT)
                | (go_at_call 40
                   refine I2.out.mono ?_
                   rintro e w6 ⟨rfl, bn, bo, HB⟩
                   have f0 := cells1 bn
                   have f1 := cells1 bo
                   have K3 := hid (KN.out w6)
                   clear bn bo I2)
                | (go_at_call 10
                   refine K3.out.mono ?_
                   rintro e w7 ⟨rfl, hb7⟩
                   have B7 := hid hb7
                   clear hb7))
              go_ret
              exact ⟨rfl, below_on HB.out B7.out⟩
            · clear h12
              go_upto_region 17 with (fail)
              clear h3 hk hk3 hsk
              go_wp2_with (first
                | (go_at_call 23
                   refine RG.out.mono ?_
                   rintro e w5 ⟨g1, g2, g3, rfl, hi, hb, hg1, hg2, hg3⟩
                   have I2 := hid (IT.out w5 g1 g2 g3 hi hb ⟨hg1, hg2, hg3⟩)
                   clear hi hb hg1 hg2 hg3 RG IT)
                | (go_at_call 40
                   refine I2.out.mono ?_
                   rintro e w6 ⟨rfl, bn, bo, HB⟩
                   have f0 := cells1 bn
                   have f1 := cells1 bo
                   have K3 := hid (KN.out w6)
                   clear bn bo I2)
                | (go_at_call 10
                   refine K3.out.mono ?_
                   rintro e w7 ⟨rfl, hb7⟩
                   have B7 := hid hb7
                   clear hb7))
              go_ret
              exact ⟨rfl, below_on HB.out B7.out⟩

end Go.Proofs.Ytkalppcekmlgbab
