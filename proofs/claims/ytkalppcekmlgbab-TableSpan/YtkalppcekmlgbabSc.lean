import Derived.Test.YtkalppcekmlgbabSb
import Derived.Test.YtkalppcekmlgbabVsRc9
namespace Go.Proofs.Ytkalppcekmlgbab.Vs
open Go.RowKit

/-- What is fixed behind the puts. -/
structure Sk where
  w0 : World
  p : Nat
  S : Nat
  Z : Nat
  g1 : Nat
  g2 : Nat
  g3 : Nat
  T : Tr
  frm : ByteArray
  to : ByteArray
  c : Nat
abbrev Sk.B (F : Sk) : Nat := F.w0.heap.size

structure Sk.ok (F : Sk) : Prop where
  hS : F.B + 1 < F.S ∧ F.S + 1 < F.Z
  hp : F.B ≤ F.p ∧ F.p < F.S
  hT : ∀ i ∈ F.T.bs, i < F.S
  g1 : F.S + 1 < F.g1 ∧ F.g1 < F.Z
  g2 : F.S + 1 < F.g2 ∧ F.g2 < F.Z
  g3 : F.S + 1 < F.g3 ∧ F.g3 < F.Z
  ks : ∃ j, j ≤ 300 ∧ Ks F.frm F.to j F.c F.T

structure SI (F : Sk) (gf gl gt m : Nat) (st : Bool) (last : ByteArray) (t : Tr) (w : World) (n : Nat) : Prop where
  et : t = F.T
  sx : Sx4 F.B F.S w F.frm F.to n
  s1 : st = decide (0 < n)
  s2 : (n = 0 → last = F.frm) ∧ (0 < n → ∃ e, F.T.toL[i0 F.frm F.T.toL + n - 1]? = some e ∧ last = e.2.1)
  nn : i0 F.frm F.T.toL + n ≤ F.T.toL.length
  ir : ∀ j, j < n → ∀ e, F.T.toL[i0 F.frm F.T.toL + j]? = some e → inR F.frm F.to e.2.1 = true
  mm : m = F.T.toL.length - n
  ti : TI F.B F.w0 w F.p F.T
  it : It w F.g1 F.g2 F.g3 (some ⟨F.p, 0, none⟩) F.frm F.to
  gz : (F.Z ≤ gf ∧ gf < w.heap.size) ∧ (F.Z ≤ gl ∧ gl < w.heap.size) ∧ (F.Z ≤ gt ∧ gt < w.heap.size)

def SII (F : Sk) (gf gl gt m : Nat) (st : Bool) (last : ByteArray) (t : Tr) (w : World) : Prop := ∃ n, SI F gf gl gt m st last t w n

theorem SI.nx {F : Sk} {gf gl gt m : Nat} {st : Bool} {last : ByteArray} {t : Tr} {w : World} {n : Nat} (h : SI F gf gl gt m st last t w n) : Vs.nx st last F.T.toL = F.T.toL[i0 F.frm F.T.toL + n]? := by
  have hr := h.ti.tb.rs
  unfold Vs.nx
  rw [h.s1]
  by_cases h0 : 0 < n
  · rw [if_pos (by simpa using h0)]
    obtain ⟨e, he, hl⟩ := h.s2.2 h0
    have hlt : i0 F.frm F.T.toL + n - 1 < F.T.toL.length := by have := h.nn; omega
    rw [List.getElem?_eq_getElem hlt] at he
    injection he with he
    rw [hl, ← he, gtr_at hr _ hlt]
    congr 1
    omega
  · rw [if_neg (by simpa using h0), h.s2.1 (by omega), geq_at]
    congr 1
    omega

theorem SI.keep {F : Sk} (ok : F.ok) {gf gl gt m : Nat} {st : Bool} {last : ByteArray} {t : Tr} {w w' : World} {n : Nat} {Q : Nat → Prop} (h : SI F gf gl gt m st last t w n) (hk : Kept Q w w') (hQ : ∀ k, Q k → k = gf ∨ k = gl ∨ k = gt) : SI F gf gl gt m st last t w' n := by
  obtain ⟨⟨a1, a2⟩, ⟨b1, b2⟩, ⟨c1, c2⟩⟩ := h.gz
  have hlo : ∀ j, j < F.Z → ¬ Q j := fun j hj hq => by rcases hQ j hq with rfl | rfl | rfl <;> omega
  have hS := ok.hS
  have hp := ok.hp
  have e1 := ok.g1
  have e2 := ok.g2
  have e3 := ok.g3
  exact ⟨h.et, h.sx.kept hk (hlo _ (by omega)) (hlo _ (by omega)) (hlo _ (by omega)) (hlo _ (by omega)), h.s1, h.s2, h.nn, h.ir, h.mm, ⟨Kept.belowOf h.ti.bl hk (by have := hp_lt h.ti.tb.blk; omega) (fun j hj => by rcases hQ j hj with rfl | rfl | rfl <;> omega), h.ti.hp, h.ti.tb.kept hk (hlo _ (by omega)) (fun i hi => hlo i (by have := ok.hT i hi; omega)), h.ti.ow⟩, ⟨hp_kept h.it.t hk (hlo _ (by omega)), hp_kept h.it.f hk (hlo _ (by omega)), hp_kept h.it.e hk (hlo _ (by omega))⟩, ⟨⟨a1, Nat.lt_of_lt_of_le a2 hk.size⟩, ⟨b1, Nat.lt_of_lt_of_le b2 hk.size⟩, ⟨c1, Nat.lt_of_lt_of_le c2 hk.size⟩⟩⟩

theorem spn_body (F : Sk) (ok : F.ok) : BodyX (some ⟨F.p, 0, none⟩) F.frm F.to F.g1 F.g2 F.g3 9 [.pointer (some ⟨F.S + 1, 0, none⟩), .pointer (some ⟨F.B, 0, none⟩), .pointer (some ⟨F.B + 1, 0, none⟩), .pointer (some ⟨F.S, 0, none⟩)] (SII F) (fun _ => False) where
  tb := by
    rintro gf gl gt m st last t w ⟨n, h⟩
    obtain ⟨j, _, ks⟩ := ok.ks
    rw [h.et]
    exact ⟨h.ti.to, ks.short⟩
  it := by
    rintro gf gl gt m st last t w ⟨n, h⟩
    exact h.it
  keep := by
    rintro gf gl gt m st last t w w' Q ⟨n, h⟩ hk hQ
    exact ⟨n, h.keep ok hk hQ⟩
  run := by
    rintro gf gl gt m st last t w b k v ⟨n, h⟩ hq hto
    obtain ⟨j, hj3, ks⟩ := ok.ks
    have hnx := h.nx
    have het := h.et
    subst het
    rw [hq] at hnx
    have hlt : i0 F.frm F.T.toL + n < F.T.toL.length := by
      rcases Nat.lt_or_ge (i0 F.frm F.T.toL + n) F.T.toL.length with h1 | h1
      · exact h1
      · rw [List.getElem?_eq_none h1] at hnx; cases hnx
    have hmem : (b, k, v) ∈ F.T.toL := List.mem_of_getElem? hnx.symm
    obtain ⟨hv, hks⟩ := ks.at_ _ hmem
    simp only at hv hks
    subst hv
    have hln := ks.ln
    have hge : kl k F.frm = false := by
      cases hc : kl k F.frm
      · rfl
      · have h1 : i0 F.frm F.T.toL < F.T.toL.length := by omega
        have h2 := geq_at F.frm F.T.toL
        rw [List.getElem?_eq_getElem h1] at h2
        have h3 : kl F.T.toL[i0 F.frm F.T.toL].2.1 F.frm = false := by
          have := List.find?_some (p := fun e : En => !kl e.2.1 F.frm) h2
          simpa using this
        have h4 := hnx
        rw [List.getElem?_eq_getElem hlt] at h4
        injection h4 with h4
        rcases Nat.eq_zero_or_pos n with h0 | h0
        · subst h0
          simp only [Nat.add_zero] at h4
          rw [← h4] at h3
          simp only at h3
          rw [hc] at h3
          cases h3
        · have h5 := List.pairwise_iff_getElem.1 h.ti.tb.rs _ _ h1 hlt (by omega)
          rw [← h4] at h5
          have := kl_trans h5 hc
          rw [h3] at this
          cases this
    have hin : inR F.frm F.to k = true := by
      simp only [inR, hge, Bool.not_false, Bool.true_and, Bool.or_eq_true, decide_eq_true_eq, Bool.not_eq_true']
      exact hto
    have hS := ok.hS
    have hp := ok.hp
    have e1 := ok.g1
    have e2 := ok.g2
    have e3 := ok.g3
    obtain ⟨⟨a1, a2⟩, ⟨b1, b2⟩, ⟨c1, c2⟩⟩ := h.gz
    refine (spn1 w F.B F.S n F.frm F.to k h.sx hS.1 hin (by omega) hks).mono ?_
    rintro e w' ⟨rfl, sx', kp'⟩
    have hlo : ∀ q, (q < F.S ∨ F.S + 1 < q) → ¬ (q = F.S ∨ q = F.S + 1) := fun q h1 => by omega
    refine ⟨true, rfl, ⟨kp'.block gf a2 (hlo _ (by omega)), kp'.block gl b2 (hlo _ (by omega)), kp'.block gt c2 (hlo _ (by omega))⟩, fun _ => ⟨F.T.toL.length - (n + 1), F.T, ?_, n + 1, ?_⟩, fun hc => by cases hc⟩
    · have := h.mm; omega
    · refine ⟨rfl, by simpa using sx', by simp, ⟨fun h0 => by omega, fun _ => ⟨(b, k, Value.string (k ++ exB)), by rw [hnx]; congr 1, rfl⟩⟩, by omega, ?_, rfl, ⟨Kept.belowOf h.ti.bl kp' (by have := hp_lt h.ti.tb.blk; omega) (fun q hq => by omega), h.ti.hp, h.ti.tb.kept kp' (hlo _ (by omega)) (fun q hq => hlo q (by have := ok.hT q hq; omega)), h.ti.ow⟩, ⟨hp_kept h.it.t kp' (hlo _ (by omega)), hp_kept h.it.f kp' (hlo _ (by omega)), hp_kept h.it.e kp' (hlo _ (by omega))⟩, ⟨⟨a1, Nat.lt_of_lt_of_le a2 kp'.size⟩, ⟨b1, Nat.lt_of_lt_of_le b2 kp'.size⟩, ⟨c1, Nat.lt_of_lt_of_le c2 kp'.size⟩⟩⟩
      intro q hq e he
      by_cases hqn : q < n
      · exact h.ir q hqn e he
      · have : q = n := by omega
        subst this
        rw [← hnx] at he
        injection he with he
        rw [← he]
        exact hin

end Go.Proofs.Ytkalppcekmlgbab.Vs
