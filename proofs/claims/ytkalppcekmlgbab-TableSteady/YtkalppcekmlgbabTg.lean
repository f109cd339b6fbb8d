import Derived.Test.YtkalppcekmlgbabTf
import Derived.Test.YtkalppcekmlgbabRb24
namespace Go.Proofs.Ytkalppcekmlgbab
open Go.RowKit

theorem nx_ah {l : List En} {st : Bool} {last : ByteArray} (h0 : st = false → last = ⟨#[]⟩) : nx st last l = l.find? (fun x => ah st last x.2.1) := by
  unfold nx
  cases st
  · rw [h0 rfl]
    simp only [Bool.false_eq_true, if_false]
    unfold geqE
    congr 1
    funext x
    simp [ah, kl_empty]
  · rfl

theorem nx_end {l : List En} {st : Bool} {last : ByteArray} (h0 : st = false → last = ⟨#[]⟩) (hq : nx st last l = none) (p : En → Bool) : l.countP (fun x => p x && ah st last x.2.1) = 0 := by
  rw [nx_ah h0, List.find?_eq_none] at hq
  rw [List.countP_eq_zero]
  intro x hx
  have := hq x hx
  simp at this
  simp [this]

structure Vk where
  w0 : World
  D : Nat
  S : Nat
  N : Nat
  p : Nat
  ov : Value
  gv : Value
  os : List ByteArray
  gs : List ByteArray
  g1 : Nat
  g2 : Nat
  g3 : Nat
  c : Nat
abbrev Vk.B (F : Vk) : Nat := F.w0.heap.size

structure Vk.ok (F : Vk) : Prop where
  hD : F.B + 1 < F.D ∧ F.D < F.S
  hN : F.S + 3 < F.N
  hg : F.g1 < F.N ∧ F.g2 < F.N ∧ F.g3 < F.N
  hgs : F.S + 3 < F.g1 ∧ F.S + 3 < F.g2 ∧ F.S + 3 < F.g3
  hp : F.B ≤ F.p
  hov : F.os ≠ [] → ∀ j, F.ov.ownBlock = some j → j < F.B
  hgv : F.gs ≠ [] → ∀ j, F.gv.ownBlock = some j → j < F.B
  hsz : ∀ q ∈ F.os, q.size ≤ 281474976710656
  hc : F.c ≤ 300

structure VI (F : Vk) (m : Nat) (st : Bool) (last : ByteArray) (t : Tr) (w : World) (f n : Nat) : Prop where
  ux : Ux F.B F.D F.S w F.ov F.gv F.p f n last
  s1 : st = decide (0 < n)
  s2 : st = false → last = ⟨#[]⟩
  tb : Tb w F.p t
  ow : ∀ i ∈ t.bs, F.B ≤ i
  gd : Good (tcP F.os F.gs) t.toL
  cc : f + t.toL.countP (fun e => is1 e && ah st last e.2.1) = F.c
  mm : 2 * (300 - n) + t.toL.countP (fun e => true && ah st last e.2.1) ≤ m
  nm : n + m ≤ 1000
  ln : t.toL.length ≤ 300 + min n 300
  it : It w F.g1 F.g2 F.g3 (some ⟨F.p, 0, none⟩) ⟨#[]⟩ ⟨#[]⟩
  ro : Rf w 1 F.ov F.os.length (F.os.map Value.string)
  rg : Rf w 1 F.gv F.gs.length (F.gs.map Value.string)
  nz : F.N ≤ w.heap.size
  bl : Below F.B F.w0 w

def VII (F : Vk) (m : Nat) (st : Bool) (last : ByteArray) (t : Tr) (w : World) : Prop := ∃ f n, VI F m st last t w f n

theorem std_any {w : World} {B D S p n : Nat} {fd : Int} {ov gv : Value} {os gs : List ByteArray} {t : Tr} {ls k : ByteArray} (v : Int) (hx : Ux B D S w ov gv p fd n ls) (ht : Tb w p t) (hg : Good (tcP os gs) t.toL) (ho : Rf w 1 ov os.length (os.map Value.string)) (hgo : Rf w 1 gv gs.length (gs.map Value.string))
    (hov : os ≠ [] → ∀ j, ov.ownBlock = some j → j < B) (hgv : gs ≠ [] → ∀ j, gv.ownBlock = some j → j < B) (hD : B + 1 < D ∧ D < S) (hp : B ≤ p) (how : ∀ i ∈ t.bs, B ≤ i) (hls : 0 < n → kl ls k = true) (hn : n < 1200) (hfd : 0 ≤ fd ∧ fd ≤ 5000) (htn : t.n ≤ 5000) (hsz : ∀ q ∈ os, q.size ≤ 281474976710656) :
    Calls Try.prog 24 #[.string k, .int .i64 v, .pointer (some ⟨S + 3, 0, none⟩), .pointer (some ⟨S + 1, 0, none⟩), .pointer (some ⟨S + 2, 0, none⟩), .pointer (some ⟨S, 0, none⟩), .pointer (some ⟨B, 0, none⟩), .pointer (some ⟨D, 0, none⟩), .pointer (some ⟨B + 1, 0, none⟩)] w (StdP w B D S p ov gv os gs t (fd + if v = 1 then 1 else 0) n k) := by
  by_cases hv : v = 1
  · subst hv
    simpa using std1a w B D S p n fd ov gv os gs t ls k hx ht hg ho hgo hov hgv hD hp how hls hn hfd htn hsz
  · rw [if_neg hv]
    simpa using std1b w B D S p n fd ov gv os gs t ls k v hv hx ht hg ho hgo hov hgv hD hp how hls hn hfd htn hsz

theorem std_body (F : Vk) (ok : F.ok) : Body F.N (some ⟨F.p, 0, none⟩) ⟨#[]⟩ ⟨#[]⟩ F.g1 F.g2 F.g3 24 [.pointer (some ⟨F.S + 3, 0, none⟩), .pointer (some ⟨F.S + 1, 0, none⟩), .pointer (some ⟨F.S + 2, 0, none⟩), .pointer (some ⟨F.S, 0, none⟩), .pointer (some ⟨F.B, 0, none⟩), .pointer (some ⟨F.D, 0, none⟩), .pointer (some ⟨F.B + 1, 0, none⟩)] (VII F) (fun _ => False) where
  tb := by
    rintro m st last t w ⟨f, n, h⟩
    exact ⟨.inr ⟨_, rfl, h.tb⟩, h.gd.sh⟩
  it := by
    rintro m st last t w ⟨f, n, h⟩
    exact h.it
  nn := by
    rintro m st last t w ⟨f, n, h⟩
    exact h.nz
  keep := by
    rintro m st last t w w' Q ⟨f, n, h⟩ hk hQ
    have hD := ok.hD
    have hN := ok.hN
    have hg := ok.hg
    have hlo : ∀ j, j < F.N → ¬ Q j := fun j hj hq => by have := (hQ j hq).1; omega
    have hq : ∀ j, Q j → ¬ (j = F.p ∨ j ∈ t.bs) := fun j hj => by
      obtain ⟨_, cs, ty, hb, ht⟩ := hQ j hj
      exact tb_not h.tb hb (by rcases ht with rfl | rfl | rfl <;> decide)
    refine ⟨f, n, h.ux.kept hk (hlo _ (by omega)) (hlo _ (by omega)) (hlo _ (by omega)) (fun j _ h2 => hlo j (by omega)), h.s1, h.s2, h.tb.kept hk (fun e => hq _ e (.inl rfl)) (fun i hi e => hq i e (.inr hi)), h.ow, h.gd, h.cc, h.mm, h.nm, h.ln, ⟨hp_kept h.it.t hk (hlo _ (by omega)), hp_kept h.it.f hk (hlo _ (by omega)), hp_kept h.it.e hk (hlo _ (by omega))⟩, h.ro.keptE hk (fun hc j hj => hlo j (by have := ok.hov (fun e => hc (by rw [e]; rfl)) j hj; omega)), h.rg.keptE hk (fun hc j hj => hlo j (by have := ok.hgv (fun e => hc (by rw [e]; rfl)) j hj; omega)), Nat.le_trans h.nz hk.size, h.bl.trans (hk.below (by have := h.nz; omega) (fun j hj => hlo j (by omega)))⟩
  run := by
    rintro m st last t w b k v ⟨f, n, h⟩ hq -
    have hD := ok.hD
    have hN := ok.hN
    have hg := ok.hg
    have hgs := ok.hgs
    have hp := ok.hp
    have hnm := h.nm
    have hln := h.ln
    have hcc := h.cc
    have hmm := h.mm
    have hF := ok.hc
    obtain ⟨vv, hv⟩ := h.gd.iv _ (nx_mem hq)
    simp only at hv
    subst hv
    have e1 := step_cnt h.tb.rs h.s2 hq is1
    have e2 := step_cnt h.tb.rs h.s2 hq (fun _ => true)
    simp only [if_true] at e2
    try simp only at e1
    have hls : 0 < n → kl last k = true := fun h0 => by
      have hst : st = true := by rw [h.s1]; simpa using h0
      rw [hst] at hq
      exact List.find?_some (p := fun e : En => kl last e.2.1) hq
    refine (std_any vv h.ux h.tb h.gd h.ro h.rg ok.hov ok.hgv hD hp h.ow hls (by omega) (by omega) (by unfold Tr.n; omega) ok.hsz).mono ?_
    rintro e w' ⟨rfl, t', ux', tb', kp', nw', gd', ch'⟩
    have hlo : ∀ j, (j < F.S ∨ F.S + 3 < j) → ¬ (j = F.p ∨ j ∈ t.bs) → ¬ ((F.S ≤ j ∧ j ≤ F.S + 3) ∨ j = F.p ∨ j ∈ t.bs) := fun j h1 h2 => by
      rintro (h3 | h3)
      · omega
      · exact h2 h3
    have hlow : ∀ j, j < F.B → ¬ (j = F.p ∨ j ∈ t.bs) := fun j hj => by
      rintro (rfl | h3)
      · omega
      · have := h.ow j h3; omega
    refine ⟨true, rfl, ?_, fun _ => ⟨2 * (300 - (n + 1)) + t'.toL.countP (fun e => true && ah true k e.2.1), t', ?_, f + (if vv = 1 then 1 else 0), n + 1, ?_⟩, fun hr => (by cases hr)⟩
    · intro j cs ty hj hb ht
      exact hp_kept hb kp' (hlo j (by omega) (tb_not h.tb hb (by rcases ht with rfl | rfl | rfl <;> decide)))
    · have := ch'.c2 (fun x => true && ah true k x)
      by_cases h3 : n < 300
      · rw [if_pos h3] at this; omega
      · rw [if_neg h3] at this; omega
    · have c1 := ch'.c1 (fun x => ah true k x)
      have c2 := ch'.c2 (fun x => true && ah true k x)
      have c3 := ch'.c2 (fun _ => true)
      simp only [List.countP_true] at c3
      refine ⟨by
        have : ((f + if vv = 1 then 1 else 0 : Nat) : Int) = (f : Int) + if vv = 1 then 1 else 0 := by split <;> simp
        rw [this]
        simpa using ux', by simp, fun hc => (by cases hc), tb', fun i hi => ?_, gd', ?_, Nat.le_refl _, ?_, ?_, ⟨?_, ?_, ?_⟩, ?_, ?_, Nat.le_trans h.nz kp'.size, ?_⟩
      · rcases nw' i hi with h1 | h1
        · exact h.ow i h1
        · exact Nat.le_trans h.bl.size h1
      · have hi1 : is1 (b, k, Value.int .i64 vv) = decide (vv = 1) := by
          simp only [is1]
          by_cases hv : vv = 1
          · simp [hv]
          · simp [hv]
        rw [hi1] at e1
        rw [c1]
        by_cases hv : vv = 1
        · rw [if_pos hv]; simp [hv] at e1; omega
        · rw [if_neg hv]; simp [hv] at e1; omega
      · by_cases h3 : n < 300
        · rw [if_pos h3] at c2; omega
        · rw [if_neg h3] at c2; omega
      · by_cases h3 : n < 300
        · rw [if_pos h3] at c3; omega
        · rw [if_neg h3] at c3; omega
      · exact hp_kept h.it.t kp' (hlo _ (by omega) (tb_not h.tb h.it.t (by decide)))
      · exact hp_kept h.it.f kp' (hlo _ (by omega) (tb_not h.tb h.it.f (by decide)))
      · exact hp_kept h.it.e kp' (hlo _ (by omega) (tb_not h.tb h.it.e (by decide)))
      · exact h.ro.keptE kp' (fun hc j hj => by
          have := ok.hov (fun e => hc (by rw [e]; rfl)) j hj
          exact hlo j (by omega) (hlow j this))
      · exact h.rg.keptE kp' (fun hc j hj => by
          have := ok.hgv (fun e => hc (by rw [e]; rfl)) j hj
          exact hlo j (by omega) (hlow j this))
      · exact h.bl.trans (kp'.below (by have := h.nz; omega) (fun j hj => hlo j (by omega) (hlow j hj)))

end Go.Proofs.Ytkalppcekmlgbab
