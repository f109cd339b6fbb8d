import Derived.Test.YtkalppcekmlgbaaOb
import Derived.Test.YtkalppcekmlgbaaFa
namespace Go.Proofs.Ytkalppcekmlgbaa
open Go.RowKit

def Ok.keys (F : Ok) (n : Nat) : List Value := (F.T.toL.take n).map (fun e => Value.string e.2.1)

structure Ok.ok (F : Ok) : Prop where
  hkb : F.w0.heap.size ≤ F.kb ∧ F.kb < F.S
  hS : F.S + 3 < F.Z
  hp : F.w0.heap.size ≤ F.p ∧ F.p < F.S
  hT : ∀ i ∈ F.T.bs, i < F.S
  g1 : F.S + 3 < F.g1 ∧ F.g1 < F.Z
  g2 : F.S + 3 < F.g2 ∧ F.g2 < F.Z
  g3 : F.S + 3 < F.g3 ∧ F.g3 < F.Z
  kz : ∃ j, j ≤ 300 ∧ j ≤ F.ks.length ∧ Kz F.ks j F.T
  sh : ∀ k ∈ F.ks, k.size ≤ 281474976710656
  kv : ∀ j, F.kv.ownBlock = some j → F.ks ≠ [] → j < F.w0.heap.size

/-- Between the steps. -/
structure OI (F : Ok) (gf gl gt m : Nat) (st : Bool) (last : ByteArray) (t : Tr) (w : World) (n : Nat) (lv : Value) : Prop where
  et : t = F.T
  ox : Ox F.kb F.S F.kv w lv n last
  s1 : st = decide (0 < n)
  s2 : (n = 0 → last = ⟨#[]⟩) ∧ (0 < n → ∃ e, F.T.toL[n - 1]? = some e ∧ last = e.2.1)
  nn : n ≤ F.T.toL.length
  mm : m = F.T.toL.length - n
  ti : TI F.w0.heap.size F.w0 w F.p F.T
  it : It w F.g1 F.g2 F.g3 (some ⟨F.p, 0, none⟩) ⟨#[]⟩ ⟨#[]⟩
  rf : Rf w 1 F.kv F.ks.length (F.ks.map Value.string)
  ow : w.ownsRow F.w0.heap.size 9 1 lv n (F.keys n)
  lo : ∀ k, lv.ownBlock = some k → F.Z ≤ k ∧ k ≠ gf ∧ k ≠ gl ∧ k ≠ gt
  gz : (F.Z ≤ gf ∧ gf < w.heap.size) ∧ (F.Z ≤ gl ∧ gl < w.heap.size) ∧ (F.Z ≤ gt ∧ gt < w.heap.size)

def OII (F : Ok) (gf gl gt m : Nat) (st : Bool) (last : ByteArray) (t : Tr) (w : World) : Prop := ∃ n lv, OI F gf gl gt m st last t w n lv

/-- What comes next is the n-th. -/
theorem OI.nx {F : Ok} {gf gl gt m : Nat} {st : Bool} {last : ByteArray} {t : Tr} {w : World} {n : Nat} {lv : Value} (h : OI F gf gl gt m st last t w n lv) : Proofs.Ytkalppcekmlgbaa.nx st last F.T.toL = F.T.toL[n]? := by
  have hr := h.ti.tb.rs
  unfold Proofs.Ytkalppcekmlgbaa.nx
  rw [h.s1]
  by_cases h0 : 0 < n
  · rw [if_pos (by simpa using h0)]
    obtain ⟨e, he, hl⟩ := h.s2.2 h0
    have hlt : n - 1 < F.T.toL.length := by have := h.nn; omega
    rw [List.getElem?_eq_getElem hlt] at he
    injection he with he
    rw [hl, ← he, gtr_at hr (n - 1) hlt]
    congr 1
    omega
  · rw [if_neg (by simpa using h0), h.s2.1 (by omega), geq_first]
    congr 1
    omega

theorem OI.keep {F : Ok} (ok : F.ok) {gf gl gt m : Nat} {st : Bool} {last : ByteArray} {t : Tr} {w w' : World} {n : Nat} {lv : Value} {Q : Nat → Prop} (h : OI F gf gl gt m st last t w n lv) (hk : Kept Q w w') (hQ : ∀ k, Q k → k = gf ∨ k = gl ∨ k = gt) : OI F gf gl gt m st last t w' n lv := by
  obtain ⟨⟨a1, a2⟩, ⟨b1, b2⟩, ⟨c1, c2⟩⟩ := h.gz
  have hlo : ∀ j, j < F.Z → ¬ Q j := fun j hj hq => by rcases hQ j hq with rfl | rfl | rfl <;> omega
  have hS := ok.hS
  have hkb := ok.hkb
  have hp := ok.hp
  have e1 := ok.g1
  have e2 := ok.g2
  have e3 := ok.g3
  refine ⟨h.et, h.ox.kept hk (hlo _ (by omega)) (fun j _ h2 => hlo j (by omega)), h.s1, h.s2, h.nn, h.mm, ⟨Kept.belowOf h.ti.bl hk (by have := hp_lt h.ti.tb.blk; omega) (fun j hj => by rcases hQ j hj with rfl | rfl | rfl <;> omega), h.ti.hp, h.ti.tb.kept hk (hlo _ (by omega)) (fun i hi => hlo i (by have := ok.hT i hi; omega)), h.ti.ow⟩, ⟨hp_kept h.it.t hk (hlo _ (by omega)), hp_kept h.it.f hk (hlo _ (by omega)), hp_kept h.it.e hk (hlo _ (by omega))⟩, h.rf.keptE hk (fun hc j hj => hlo j (by have := ok.kv j hj (fun e => hc (by rw [e]; rfl)); omega)), ownsRow_kept h.ow hk (fun j hj hq => ?_), h.lo, ⟨⟨a1, Nat.lt_of_lt_of_le a2 hk.size⟩, ⟨b1, Nat.lt_of_lt_of_le b2 hk.size⟩, ⟨c1, Nat.lt_of_lt_of_le c2 hk.size⟩⟩⟩
  obtain ⟨_, q1, q2, q3⟩ := h.lo j hj
  rcases hQ j hq with rfl | rfl | rfl
  · exact q1 rfl
  · exact q2 rfl
  · exact q3 rfl

theorem ord_body (F : Ok) (ok : F.ok) : BodyX (some ⟨F.p, 0, none⟩) ⟨#[]⟩ ⟨#[]⟩ F.g1 F.g2 F.g3 22 [.pointer (some ⟨F.S + 2, 0, none⟩), .pointer (some ⟨F.S + 1, 0, none⟩), .pointer (some ⟨F.S, 0, none⟩), .pointer (some ⟨F.kb, 0, none⟩), .pointer (some ⟨F.S + 3, 0, none⟩)] (OII F) (fun _ => False) where
  tb := by
    rintro gf gl gt m st last t w ⟨n, lv, h⟩
    obtain ⟨j, _, _, kz⟩ := ok.kz
    rw [h.et]
    exact ⟨h.ti.to, kz.short ok.sh⟩
  it := by
    rintro gf gl gt m st last t w ⟨n, lv, h⟩
    exact h.it
  keep := by
    rintro gf gl gt m st last t w w' Q ⟨n, lv, h⟩ hk hQ
    exact ⟨n, lv, h.keep ok hk hQ⟩
  run := by
    rintro gf gl gt m st last t w b k v ⟨n, lv, h⟩ hq -
    obtain ⟨j, hj3, hjl, kz⟩ := ok.kz
    have hnx := h.nx
    have het := h.et
    subst het
    rw [hq] at hnx
    have hlt : n < F.T.toL.length := by
      rcases Nat.lt_or_ge n F.T.toL.length with h1 | h1
      · exact h1
      · rw [List.getElem?_eq_none h1] at hnx; cases hnx
    have hmem : (b, k, v) ∈ F.T.toL := List.mem_of_getElem? hnx.symm
    obtain ⟨i, hi, hv, hks⟩ := kz.at_ _ hmem
    simp only at hv hks
    subst hv
    have hln := kz.ln
    have hls : 0 < n → kl last k = true := fun h0 => by
      obtain ⟨e, he, hl⟩ := h.s2.2 h0
      have h1 : n - 1 < F.T.toL.length := by omega
      rw [List.getElem?_eq_getElem h1] at he
      injection he with he
      have h2 := List.pairwise_iff_getElem.1 h.ti.tb.rs (n - 1) n h1 hlt (by omega)
      rw [List.getElem?_eq_getElem hlt] at hnx
      injection hnx with hnx
      rw [he, ← hnx] at h2
      rw [hl]
      exact h2
    have hS := ok.hS
    have hkb := ok.hkb
    have hp := ok.hp
    have e1 := ok.g1
    have e2 := ok.g2
    have e3 := ok.g3
    obtain ⟨⟨a1, a2⟩, ⟨b1, b2⟩, ⟨c1, c2⟩⟩ := h.gz
    refine (ord1 w F.w0.heap.size F.kb F.S n i F.kv lv last k F.ks (F.keys n) h.ox hkb.2 (fun q hq => by have := (h.lo q hq).1; omega) h.rf hks hls (by omega) h.ow h.ti.bl.size).mono ?_
    rintro e w' ⟨rfl, lv', ox', ow', kp', nw'⟩
    have hlo : ∀ q, q < F.Z → (q < F.S ∨ F.S + 3 < q) → ¬ ((F.S ≤ q ∧ q ≤ F.S + 3) ∨ lv.ownBlock = some q) := fun q h1 h2 => by
      rintro (h3 | h3)
      · omega
      · have := (h.lo q h3).1; omega
    have hgx : ∀ q, F.Z ≤ q → (lv.ownBlock ≠ some q) → ¬ ((F.S ≤ q ∧ q ≤ F.S + 3) ∨ lv.ownBlock = some q) := fun q h1 h2 => by
      rintro (h3 | h3)
      · omega
      · exact h2 h3
    refine ⟨true, rfl, ⟨kp'.block gf a2 (hgx _ a1 (fun e => (h.lo _ e).2.1 rfl)), kp'.block gl b2 (hgx _ b1 (fun e => (h.lo _ e).2.2.1 rfl)), kp'.block gt c2 (hgx _ c1 (fun e => (h.lo _ e).2.2.2 rfl))⟩, fun _ => ⟨F.T.toL.length - (n + 1), F.T, ?_, n + 1, lv', ?_⟩, fun hc => by cases hc⟩
    · have := h.mm; omega
    · refine ⟨rfl, by simpa using ox', by simp, ⟨fun h0 => by omega, fun _ => ⟨(b, k, Value.int .i64 i), by simpa using hnx.symm, rfl⟩⟩, hlt, rfl, ⟨Kept.belowOf h.ti.bl kp' (by have := hp_lt h.ti.tb.blk; omega) (fun q hq => ?_), h.ti.hp, h.ti.tb.kept kp' (hlo _ (by omega) (by omega)) (fun q hq => hlo q (by have := ok.hT q hq; omega) (by have := ok.hT q hq; omega)), h.ti.ow⟩, ⟨hp_kept h.it.t kp' (hlo _ (by omega) (by omega)), hp_kept h.it.f kp' (hlo _ (by omega) (by omega)), hp_kept h.it.e kp' (hlo _ (by omega) (by omega))⟩, h.rf.keptE kp' (fun hc q hq => hlo q (by have := ok.kv q hq (fun e => hc (by rw [e]; rfl)); omega) (by have := ok.kv q hq (fun e => hc (by rw [e]; rfl)); omega)), ?_, ?_, ⟨⟨a1, Nat.lt_of_lt_of_le a2 kp'.size⟩, ⟨b1, Nat.lt_of_lt_of_le b2 kp'.size⟩, ⟨c1, Nat.lt_of_lt_of_le c2 kp'.size⟩⟩⟩
      · rcases hq with hq | hq
        · omega
        · have := (h.lo q hq).1; omega
      · have : F.keys (n + 1) = F.keys n ++ [.string k] := by
          unfold Ok.keys
          rw [List.take_add_one, ← hnx]
          simp
        rw [this]
        exact ow'
      · intro q hq
        rcases nw' with h1 | h1
        · exact h.lo q (h1 ▸ hq)
        · rw [hq] at h1
          injection h1 with h1
          omega

end Go.Proofs.Ytkalppcekmlgbaa
