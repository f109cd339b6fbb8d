import Derived.Test.YtkalppcekmlgbabSc
import Derived.Test.YtkalppcekmlgbabRg
namespace Go.Proofs.Ytkalppcekmlgbab.Vs
open Go.RowKit

theorem atN {w W : World} {i : Nat} (o : Obj) (h : w.heap.size = W.heap.size + i) : (w.alloc o).heap[W.heap.size + i]? = some o := by
  rw [← h]; exact hp_new w o
theorem fnNilS (g1 g2 g3 : Nat) (W : World) : (binOp .eql 28 (.func (.func 29) #[] #[.pointer (some ⟨g1, 0, none⟩), .pointer (some ⟨g2, 0, none⟩), .pointer (some ⟨g3, 0, none⟩)]) .nilFunc).run Try.prog W = .ok (.bool false) W := by kernel_rfl

abbrev twoS (w : World) : World := (w.alloc (.cells #[.int .i64 0] 3)).alloc (.cells #[.bool true] 4)
abbrev twoF (w : World) (frm to : ByteArray) : World := (w.alloc (.cells #[.string frm] 9)).alloc (.cells #[.string to] 9)
theorem twoS_below (w : World) : Below w.heap.size w (twoS w) := (below_new _ _).alloc (by simp) _
theorem twoF_below (w : World) (frm to : ByteArray) : Below w.heap.size w (twoF w frm to) := (below_new _ _).alloc (by simp) _
theorem twoF_size (w : World) (frm to : ByteArray) : (twoF w frm to).heap.size = w.heap.size + 2 := by simp [twoF]

/-- While the keys are put. -/
structure SP (w wr : World) (frm to : ByteArray) (k c : Nat) (t : Tr) : Prop where
  ti : TI (twoF w frm to).heap.size (twoF w frm to) wr (w.heap.size + 2) t
  ks : Ks frm to k c t

theorem SP.bf {w wr : World} {frm to : ByteArray} {k c : Nat} {t : Tr} (h : SP w wr frm to k c t) : Bx wr w.heap.size frm :=
  hp_below (hp_alloc (hp_new w _) _ : (twoF w frm to).heap[w.heap.size]? = _) h.ti.bl (by rw [twoF_size]; omega)
theorem SP.be {w wr : World} {frm to : ByteArray} {k c : Nat} {t : Tr} (h : SP w wr frm to k c t) : Bx wr (w.heap.size + 1) to :=
  hp_below (atN (w := w.alloc (.cells #[.string frm] 9)) _ (by simp) : (twoF w frm to).heap[w.heap.size + 1]? = _) h.ti.bl (by rw [twoF_size]; omega)
theorem SP.bl {w wr : World} {frm to : ByteArray} {k c : Nat} {t : Tr} (h : SP w wr frm to k c t) : Below w.heap.size w wr := below_on (twoF_below w frm to) h.ti.bl
theorem SP.le {w wr : World} {frm to : ByteArray} {k c : Nat} {t : Tr} (h : SP w wr frm to k c t) : c ≤ k := by
  rw [← h.ks.cn]
  exact Nat.le_trans List.countP_le_length h.ks.ln
theorem SP.put {w wr w' : World} {frm to : ByteArray} {k c : Nat} {t t' : Tr} {key : ByteArray} (h : SP w wr frm to k c t) (hp : PutP wr w' (w.heap.size + 2) t t' key (.string (key ++ exB))) (hk : key.size ≤ 281474976710656) : SP w w' frm to (k + 1) (if ent key t.toL = none ∧ inR frm to key = true then c + 1 else c) t' :=
  ⟨h.ti.put hp, h.ks.put h.ti.tb hp hk⟩

theorem spn_iter {w wr w1 : World} {frm to : ByteArray} {k c : Nat} {T : Tr} {g1 g2 g3 : Nat} (h : SP w wr frm to k c T) (hk : k ≤ 300) (hi : It w1 g1 g2 g3 (some ⟨w.heap.size + 2, 0, none⟩) frm to) (hb : Below (twoS wr).heap.size (twoS wr) w1) (hg : (twoS wr).heap.size ≤ g1 ∧ (twoS wr).heap.size ≤ g2 ∧ (twoS wr).heap.size ≤ g3) :
    Calls Try.prog 29 #[.func (.func 9) #[] #[.pointer (some ⟨wr.heap.size + 1, 0, none⟩), .pointer (some ⟨w.heap.size, 0, none⟩), .pointer (some ⟨w.heap.size + 1, 0, none⟩), .pointer (some ⟨wr.heap.size, 0, none⟩)], .pointer (some ⟨g1, 0, none⟩), .pointer (some ⟨g2, 0, none⟩), .pointer (some ⟨g3, 0, none⟩)] w1
      fun e w3 => e = .returned (.tuple #[]) ∧ w3.heap[wr.heap.size]? = some (.cells #[.int .i64 (c : Nat)] 3 (0, 0)) ∧ w3.heap[wr.heap.size + 1]? = some (.cells #[.bool true] 4 (0, 0)) ∧ Hid (Below w.heap.size w w3) := by
  have hz : (twoS wr).heap.size = wr.heap.size + 2 := by simp [twoS]
  rw [hz] at hg
  have hbs := hb.size
  rw [hz] at hbs
  have hp := hp_lt h.ti.tb.blk
  have b1 := twoS_below wr
  have b2 := below_on b1 hb
  have hwr := h.bl.size
  have hbe := hp_lt h.be
  let F : Sk := ⟨w, w.heap.size + 2, wr.heap.size, w1.heap.size, g1, g2, g3, T, frm, to, c⟩
  have ok : F.ok := ⟨⟨hbe, by show wr.heap.size + 1 < w1.heap.size; omega⟩, ⟨Nat.le_add_right _ _, hp⟩, fun i hi => h.ti.tb.at_.lt i hi, ⟨by show wr.heap.size + 1 < g1; omega, hp_lt hi.t⟩, ⟨by show wr.heap.size + 1 < g2; omega, hp_lt hi.f⟩, ⟨by show wr.heap.size + 1 < g3; omega, hp_lt hi.e⟩, ⟨k, hk, h.ks⟩⟩
  have sx1 : Sx4 w.heap.size wr.heap.size (twoS wr) frm to (0 : Nat) := ⟨hp_below h.bf b1 (hp_lt h.bf), hp_below h.be b1 hbe, hp_alloc (hp_new _ _) _, atN _ (by simp)⟩
  refine (iterX9 (wr.heap.size + 1) w.heap.size (w.heap.size + 1) wr.heap.size (spn_body F ok) T.toL.length T w1 ?_ hi).mono ?_
  · intro gf gl gt w2 hb2 q1 q2 q3 hs
    have b3 := below_on b2 hb2
    refine ⟨0, rfl, ?_, rfl, ⟨fun _ => rfl, fun h0 => by omega⟩, i0_le _ _, fun j hj => by omega, rfl, ⟨below_on h.bl b3, Nat.le_add_right _ _, h.ti.tb.below b3, fun i hi => by have := h.ti.ow i hi; simp at this; show w.heap.size ≤ i; omega⟩, ⟨hp_below hi.t hb2 (hp_lt hi.t), hp_below hi.f hb2 (hp_lt hi.f), hp_below hi.e hb2 (hp_lt hi.e)⟩, ⟨⟨q1, hp_lt hs.f⟩, ⟨q2, hp_lt hs.l⟩, ⟨q3, hp_lt hs.t⟩⟩⟩
    exact (sx1.kept (Kept.ofBelow hb) id id id id).kept (Kept.ofBelow hb2) id id id id
  · rintro e w3 ⟨rfl, ⟨gf, gl, gt, m, st, last, t, ⟨n, si⟩, hen⟩ | hf⟩
    · have hnx := si.nx
      have het : t = T := si.et
      rw [het] at hen
      have hn : cnt frm to T.toL = n := cnt_fin si.ti.tb.rs si.nn si.ir (fun e he => hen e.1 e.2.1 e.2.2 (by
        rw [show nx st last T.toL = T.toL[i0 frm T.toL + n]? from hnx]
        exact he))
      have hc : c = n := by rw [← h.ks.cn]; exact hn
      subst hc
      exact ⟨rfl, si.sx.bn, si.sx.bo, hid si.ti.bl⟩
    · exact hf.elim

set_option maxRecDepth 100000 in
set_option maxHeartbeats 8000000 in
theorem span_any (kv : Value) (ks : List ByteArray) (frm to : ByteArray) (w : World) (hr : Rf w 1 kv ks.length (ks.map Value.string)) (hsh : ∀ q ∈ ks, q.size ≤ 281474976710656) (hf : frm.size ≤ 281474976710656) (ht : to.size ≤ 281474976710656) :
    Calls Try.prog 3 #[kv, .string frm, .string to] w fun x w' => x = .returned (.bool true) ∧ Below w.heap.size w w' := by
  obtain ⟨a1, q1, e1, hcp1, hmx1⟩ := hr.shape
  have KN := hid known_any
  have NW := hid (new_any (twoF w frm to))
  have HA := hid (And.intro hr (And.intro hsh (And.intro hf ht)))
  have hmf : ∀ (fn : Fn) (first cap : Array Value) (w : World), (Instr.makeFunc fn first cap).run Try.prog w = .ok (.func fn first cap) w := fun _ _ _ _ => rfl
  have hEq := fnNilS
  subst e1
  clear hr hsh hf ht
  go_enter Try.func3, Try.ntmps3
  go_wp2_with (
    go_at_call 6
    refine NW.out.mono ?_
    rintro e w1 ⟨e1, ht1, hb1, hs1⟩
    rw [twoF_size] at e1
    subst e1
    have N1 := hid (show SP w w1 frm to 0 0 .nil from ⟨⟨hb1, by simp [twoF], by rw [twoF_size] at ht1; exact ht1, fun i hi => (by cases hi)⟩, Ks.nil frm to⟩)
    clear ht1 hb1 hs1 NW)
  go_loopw [8, 9] (fun want i wr => ∃ (k c : Nat) (t : Tr), want = .int .i64 c ∧ i = .int .i64 k ∧ k ≤ ks.length ∧ k ≤ 300 ∧ Hid (SP w wr frm to k c t)) (fun _ i _ => 300 - (intOf i).toNat)
  case atStart => exact ⟨0, 0, .nil, rfl, rfl, Nat.zero_le _, Nat.zero_le _, N1⟩
  case round =>
    obtain ⟨k, c, T, rfl, rfl, hk, hk3, hq⟩ := hrel
    have hck := hq.out.le
    have c0 := cells1 hq.out.bf
    have c1 := cells1 hq.out.be
    by_cases h12 : k < ks.length ∧ k < 300
    · obtain ⟨h1, h2⟩ := h12
      have h2' : (k : Int) < 300 := by omega
      have h1' : (k : Int) < ks.length := by omega
      obtain ⟨gb, off, cap', hbody2, -, -, hcell⟩ := (HA.out.1.below hq.out.bl).lits (by omega) (by omega)
      injection hbody2 with hb3 hb4 hb5
      subst hb3 hb5
      have v0 := hcell k (.string ks[k]) (by rw [List.getElem?_map, List.getElem?_eq_getElem h1]; rfl)
      have hne : ks.map Value.string ≠ [] := fun e => absurd (congrArg List.length e) (by rw [List.length_map]; simp only [List.length_nil]; omega)
      have hgb : gb < w.heap.size := HA.out.1.there hne gb rfl
      have hsz : ks[k].size ≤ 281474976710656 := HA.out.2.1 _ (List.getElem_mem h1)
      generalize ks[k] = key at v0 hsz
      have hse : ¬ (9223372036854775807 < key.size + 1) := by omega
      have PU := hid (put_any (w.heap.size + 2) key (key ++ exB) T wr hq.out.ti.tb (by have := hq.out.ks.ln; unfold Tr.n; omega) hsz)
      have HS := hid hsz
      have PUD := hid (show ∀ (v : Value), getV key T.toL = v → Calls Try.prog 7 #[.pointer (some ⟨w.heap.size + 2, 0, none⟩), .string key, .string (key ++ exB)] wr.drew fun x w' => ∃ t', x = .returned v ∧ PutP wr w' (w.heap.size + 2) T t' key (.string (key ++ exB)) from fun _ hv => by
        refine (put_any (w.heap.size + 2) key (key ++ exB) T wr.drew (hq.out.ti.tb.below (Below.refl _ _).drew) (by have := hq.out.ks.ln; unfold Tr.n; omega) hsz).mono ?_
        rintro x w' ⟨t', rfl, hp⟩
        exact ⟨t', by rw [hv], ⟨hp.tb, hp.kp.undrew, hp.nw, hp.ls⟩⟩)
      have AF := hid (show ∀ w2 t', PutP wr w2 (w.heap.size + 2) T t' key (.string (key ++ exB)) → w2.cell? ⟨gb, off + k, none⟩ = some (.string key) ∧ w2.cell? ⟨w.heap.size, 0, none⟩ = some (.string frm) ∧ w2.cell? ⟨w.heap.size + 1, 0, none⟩ = some (.string to) from by
        intro w2 t' hp
        have sp := hq.out.put hp hsz
        refine ⟨?_, cells1 sp.bf, cells1 sp.be⟩
        have hb := hq.out.bl
        exact (sp.bl.cell (p := ⟨gb, off + k, none⟩) hgb).trans ((hb.cell (p := ⟨gb, off + k, none⟩) hgb).symm.trans v0))
      clear hcell hb4 hsz hcp1 hmx1 hmf hEq hgb hne
      cases hen : ent key T.toL with
      | some e0 =>
        have PU2 := hid (PUD.out _ (show getV key T.toL = .tuple #[e0.2.2, .bool true] by rw [getV, hen]))
        have HE := hid hen
        clear PU PUD hen
        go_wp2_with fail
        go_region_held3 (fun wx => wx.cell? ⟨gb, off + k, none⟩ = some (.string key) ∧ wx.cell? ⟨w.heap.size, 0, none⟩ = some (.string frm) ∧ wx.cell? ⟨w.heap.size + 1, 0, none⟩ = some (.string to))
          (first | (go_keep; done) | (exact AF2.out))
          (first
            | (go_at_call 7
               refine PU2.out.mono ?_
               rintro e w2 ⟨t', rfl, hp⟩
               have AF2 := hid (AF.out w2 t' hp)
               have N2 := hid (hq.out.put hp HS.out)
               clear hp))
        obtain ⟨d0, d1, d2⟩ := AF2.out
        go_wp2_with fail
        go_quiet (fail)
        go_wp2
        go_roundw
        case rel =>
          refine ⟨k + 1, c, t', rfl, by go_num, by omega, by omega, ?_⟩
          have N3 := N2.out
          rw [if_neg (by rw [HE.out]; simp)] at N3
          exact hid ⟨⟨blw_drewN N3.ti.bl, N3.ti.hp, N3.ti.tb.below (blw_drewN (Below.refl _ _)), N3.ti.ow⟩, N3.ks⟩
        case measure => simp [intOf]; omega
      | none =>
        have PU2 := hid (PUD.out _ (show getV key T.toL = .tuple #[zv, .bool false] by rw [getV, hen]))
        have HE := hid hen
        clear PU PUD hen
        go_wp2_with fail
        go_region_held3 (fun wx => wx.cell? ⟨gb, off + k, none⟩ = some (.string key) ∧ wx.cell? ⟨w.heap.size, 0, none⟩ = some (.string frm) ∧ wx.cell? ⟨w.heap.size + 1, 0, none⟩ = some (.string to))
          (first | (go_keep; done) | (exact AF2.out))
          (first
            | (go_at_call 7
               refine PU2.out.mono ?_
               rintro e w2 ⟨t', rfl, hp⟩
               have AF2 := hid (AF.out w2 t' hp)
               have N2 := hid (hq.out.put hp HS.out)
               clear hp))
        obtain ⟨d0, d1, d2⟩ := AF2.out
        cases hkf : kl key frm
        · by_cases ht : to = ⟨#[]⟩
          · have b0 := emp_eq ht
            have HI := hid (show inR frm to key = true by simp [inR, hkf, ht])
            clear ht
            go_wp2_with fail
            go_quiet (fail)
            go_wp2
            go_roundw
            case rel =>
              refine ⟨k + 1, c + 1, t', by go_num, by go_num, by omega, by omega, ?_⟩
              have N3 := N2.out
              rw [if_pos ⟨HE.out, HI.out⟩] at N3
              exact hid ⟨⟨blw_drewN N3.ti.bl, N3.ti.hp, N3.ti.tb.below (blw_drewN (Below.refl _ _)), N3.ti.ow⟩, N3.ks⟩
            case measure => simp [intOf]; omega
          · have b0 := emp_ne ht
            cases hkt : kl to key
            · have HI := hid (show inR frm to key = true by simp [inR, hkf, hkt])
              have b1 : (Op.bytesLess key.toList to.toList || (key.toList == to.toList)) = true := by rw [leq_eq, hkt]; rfl
              clear ht hkt
              go_wp2_with fail
              go_quiet (fail)
              go_wp2
              go_roundw
              case rel =>
                refine ⟨k + 1, c + 1, t', by go_num, by go_num, by omega, by omega, ?_⟩
                have N3 := N2.out
                rw [if_pos ⟨HE.out, HI.out⟩] at N3
                exact hid ⟨⟨blw_drewN N3.ti.bl, N3.ti.hp, N3.ti.tb.below (blw_drewN (Below.refl _ _)), N3.ti.ow⟩, N3.ks⟩
              case measure => simp [intOf]; omega
            · have HI := hid (show inR frm to key = false by simp [inR, hkf, hkt, ht])
              have b1 : (Op.bytesLess key.toList to.toList || (key.toList == to.toList)) = false := by rw [leq_eq, hkt]; rfl
              clear ht hkt
              go_wp2_with fail
              go_quiet (fail)
              go_wp2
              go_roundw
              case rel =>
                refine ⟨k + 1, c, t', rfl, by go_num, by omega, by omega, ?_⟩
                have N3 := N2.out
                rw [if_neg (by rw [HI.out]; simp)] at N3
                exact hid ⟨⟨blw_drewN N3.ti.bl, N3.ti.hp, N3.ti.tb.below (blw_drewN (Below.refl _ _)), N3.ti.ow⟩, N3.ks⟩
              case measure => simp [intOf]; omega
        · have HI := hid (show inR frm to key = false by simp [inR, hkf])
          go_wp2_with fail
          go_quiet (fail)
          go_wp2
          go_roundw
          case rel =>
            refine ⟨k + 1, c, t', rfl, by go_num, by omega, by omega, ?_⟩
            have N3 := N2.out
            rw [if_neg (by rw [HI.out]; simp)] at N3
            exact hid ⟨⟨blw_drewN N3.ti.bl, N3.ti.hp, N3.ti.tb.below (blw_drewN (Below.refl _ _)), N3.ti.ow⟩, N3.ks⟩
          case measure => simp [intOf]; omega
    · have RG := hid (range_any (some ⟨w.heap.size + 2, 0, none⟩) frm to (twoS wr) HA.out.2.2.1 HA.out.2.2.2)
      have IT := hid (fun (w1 : World) (g1 g2 g3 : Nat) hi hb hg => spn_iter (w1 := w1) (g1 := g1) (g2 := g2) (g3 := g3) hq.out hk3 hi hb hg)
      have e0 := ((twoS_below wr).cell (p := ⟨w.heap.size, 0, none⟩) (hp_lt hq.out.bf)).trans c0
      have e1 := ((twoS_below wr).cell (p := ⟨w.heap.size + 1, 0, none⟩) (hp_lt hq.out.be)).trans c1
      simp only [itV] at RG
      have bcc : ((c : Int) == (c : Int)) = true := by simp
      clear hcp1 hmx1
      by_cases h1 : k < ks.length
      · have h2' : ¬ (k : Int) < 300 := by omega
        clear h12
        go_wp2_with (first
          | (go_at_call 8
             refine RG.out.mono ?_
             rintro e w1 ⟨g1, g2, g3, rfl, hi, hb, hg1, hg2, hg3⟩
             have I2 := hid (IT.out w1 g1 g2 g3 hi hb ⟨hg1, hg2, hg3⟩)
             clear hi hb hg1 hg2 hg3 RG IT)
          | (go_at_call 29
             refine I2.out.mono ?_
             rintro e w3 ⟨rfl, bn, bo, HB⟩
             have f0 := cells1 bn
             have f1 := cells1 bo
             have K3 := hid (KN.out w3)
             clear bn bo I2)
          | (go_at_call 10
             refine K3.out.mono ?_
             rintro e w6 ⟨rfl, hb6⟩
             have B6 := hid hb6
             clear hb6))
        go_ret
        exact ⟨rfl, below_on HB.out B6.out⟩
      · clear h12
        go_wp2_with (first
          | (go_at_call 8
             refine RG.out.mono ?_
             rintro e w1 ⟨g1, g2, g3, rfl, hi, hb, hg1, hg2, hg3⟩
             have I2 := hid (IT.out w1 g1 g2 g3 hi hb ⟨hg1, hg2, hg3⟩)
             clear hi hb hg1 hg2 hg3 RG IT)
          | (go_at_call 29
             refine I2.out.mono ?_
             rintro e w3 ⟨rfl, bn, bo, HB⟩
             have f0 := cells1 bn
             have f1 := cells1 bo
             have K3 := hid (KN.out w3)
             clear bn bo I2)
          | (go_at_call 10
             refine K3.out.mono ?_
             rintro e w6 ⟨rfl, hb6⟩
             have B6 := hid hb6
             clear hb6))
        go_ret
        exact ⟨rfl, below_on HB.out B6.out⟩

end Go.Proofs.Ytkalppcekmlgbab.Vs
