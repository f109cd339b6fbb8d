import Derived.Test.YtkalppcekmlgbaaFb
namespace Go.Proofs.Ytkalppcekmlgbaa
open Go.RowKit

/-- What is fixed in one call of follows. -/
structure Fk where
  B : Nat
  S : Nat
  b : Nat
  wE : World
  o : Option Addr
  t0 : Tr
  vl0 : Value
  l0 : List Pr
  frm : ByteArray
  to : ByteArray
  g1 : Nat
  g2 : Nat
  g3 : Nat
  stop : Int
  body : Value
  xs : List Sx

structure Fk.ok (F : Fk) : Prop where
  hS : F.S = F.wE.heap.size
  hB : F.B ≤ F.S
  hg1 : F.g1 < F.S
  hg2 : F.g2 < F.S
  hg3 : F.g3 < F.S
  hbd : F.xs ≠ [] → ∀ j, F.body.ownBlock = some j → j < F.B
  hxs : ∀ x ∈ F.xs, x.key.size ≤ 281474976710656
  hln : F.l0.length + min F.xs.length 300 ≤ 90000
  st0 : St F.B F.wE F.o F.t0 F.b F.vl0 F.l0
  it0 : It F.wE F.g1 F.g2 F.g3 F.o F.frm F.to
  rf0 : Rf F.wE 5 F.body F.xs.length (F.xs.flatMap Sx.cells)

/-- Between the steps. -/
structure FI (F : Fk) (m : Nat) (st : Bool) (last : ByteArray) (t : Tr) (w : World) (n : Nat) (vl : Value) (l : List Pr) (ls : ByteArray) : Prop where
  fx : Fx w F.S F.o F.b F.frm F.to F.stop F.body true false n ls
  s1 : st = decide (0 < n)
  s2 : (0 < n → ls = last) ∧ (n = 0 → last = F.frm)
  ss : St F.B w F.o t F.b vl l
  it : It w F.g1 F.g2 F.g3 F.o F.frm F.to
  rf : Rf w 5 F.body F.xs.length (F.xs.flatMap Sx.cells)
  nz : F.S + 10 ≤ w.heap.size
  mm : 2 * (300 - n) + ahead st last l ≤ m
  nm : n + m ≤ 95000
  ln : l.length + (min F.xs.length 300 - n) ≤ F.l0.length + min F.xs.length 300
  kp : Kept (ft F.o F.t0 F.b F.vl0) F.wE w
  nw : ∀ k, ft F.o t F.b vl k → ft F.o F.t0 F.b F.vl0 k ∨ F.wE.heap.size ≤ k
  e0 : F.xs = [] → t = F.t0 ∧ vl = F.vl0 ∧ l = F.l0 ∧ Below F.S F.wE w

/-- Stopped. -/
def FJ (F : Fk) (w : World) : Prop := ∃ (n : Nat) (t : Tr) (vl : Value) (l : List Pr) (ls : ByteArray), Fx w F.S F.o F.b F.frm F.to F.stop F.body true true n ls ∧ (n : Int) = F.stop ∧ 0 < n ∧ St F.B w F.o t F.b vl l ∧ Kept (ft F.o F.t0 F.b F.vl0) F.wE w ∧ (∀ k, ft F.o t F.b vl k → ft F.o F.t0 F.b F.vl0 k ∨ F.wE.heap.size ≤ k) ∧ l.length ≤ F.l0.length + min F.xs.length 300 ∧ (F.xs = [] → t = F.t0 ∧ vl = F.vl0 ∧ l = F.l0 ∧ Below F.S F.wE w)

def FII (F : Fk) (m : Nat) (st : Bool) (last : ByteArray) (t : Tr) (w : World) : Prop := ∃ n vl l ls, FI F m st last t w n vl l ls

theorem ty9 {w : World} {k : Nat} {cs cs' : Array Value} {ty ty' : TypeId} (h : w.heap[k]? = some (.cells cs ty (0, 0))) (h' : w.heap[k]? = some (.cells cs' ty' (0, 0))) : ty = ty' := by
  rw [h] at h'
  injection h' with e
  injection e

theorem ahead_eq (st : Bool) (last : ByteArray) (l : List Pr) : ahead st last l = l.countP (fun e => (fun k => if st then kl last k else !kl k last) e.1) := rfl

theorem fol_body (F : Fk) (ok : F.ok) : Body (F.S + 10) F.o F.frm F.to F.g1 F.g2 F.g3 29 [.pointer (some ⟨F.S + 1, 0, none⟩), .pointer (some ⟨F.S + 2, 0, none⟩), .pointer (some ⟨F.S + 8, 0, none⟩), .pointer (some ⟨F.S + 9, 0, none⟩), .pointer (some ⟨F.S + 7, 0, none⟩), .pointer (some ⟨F.S + 3, 0, none⟩), .pointer (some ⟨F.S + 6, 0, none⟩), .pointer (some ⟨F.S + 5, 0, none⟩), .pointer (some ⟨F.S, 0, none⟩), .pointer (some ⟨F.S + 4, 0, none⟩)] (FII F) (FJ F) where
  tb := by
    rintro m st last t w ⟨n, vl, l, ls, h⟩
    exact ⟨h.ss.to, short_of h.ss.mt h.ss.sh⟩
  it := by
    rintro m st last t w ⟨n, vl, l, ls, h⟩
    exact h.it
  nn := by
    rintro m st last t w ⟨n, vl, l, ls, h⟩
    exact h.nz
  keep := by
    rintro m st last t w w' Q ⟨n, vl, l, ls, h⟩ hk hQ
    have hlo : ∀ j, j < F.S + 10 → ¬ Q j := fun j hj hq => by have := (hQ j hq).1; omega
    have hft : ∀ j, ft F.o t F.b vl j → ¬ Q j := fun j hj hq => by
      obtain ⟨-, cs, ty, e, ht⟩ := hQ j hq
      obtain ⟨cs', ty', e', ht'⟩ := h.ss.ty hj
      have := ty9 e e'
      subst this
      rcases ht with rfl | rfl | rfl <;> rcases ht' with h | h | h | h <;> cases h
    have hS := ok.hS
    refine ⟨n, vl, l, ls, h.fx.kept hk (fun j _ h2 => hlo j (by omega)), h.s1, h.s2, h.ss.kept hk hft, ⟨hp_kept h.it.t hk (hlo _ (by have := ok.hg1; omega)), hp_kept h.it.f hk (hlo _ (by have := ok.hg2; omega)), hp_kept h.it.e hk (hlo _ (by have := ok.hg3; omega))⟩, h.rf.keptE hk (fun hc j hj => hlo j (by have := ok.hbd (flat_ne hc) j hj; have := ok.hB; omega)), Nat.le_trans h.nz hk.size, h.mm, h.nm, h.ln, h.kp.trans hk (fun j hj hq => absurd hq (hlo j (by omega))), h.nw, fun hx => ⟨(h.e0 hx).1, (h.e0 hx).2.1, (h.e0 hx).2.2.1, (h.e0 hx).2.2.2.trans (hk.below (by have := h.nz; omega) (fun j hj => hlo j (by omega)))⟩⟩
  run := by
    rintro m st last t w bb k v ⟨n, vl, l, ls, h⟩ hq hto
    have ho : ∃ p, F.o = some ⟨p, 0, none⟩ := by
      rcases h.ss.to with ⟨_, rfl⟩ | ⟨p, h2, _⟩
      · unfold nx at hq; cases st <;> cases hq
      · exact ⟨p, h2⟩
    obtain ⟨p, ho⟩ := ho
    obtain ⟨vn, rfl, hmem, hah⟩ := ahead_less h.ss.mt hq
    have hbk := nx_book h.ss.mt h.ss.to.rs st last
    rw [hq] at hbk
    have hlen : l.length ≤ 90000 := by have := h.ln; have := ok.hln; omega
    have hq' : (if 0 < n then bnextV ls l else bleastV F.frm l) = .tuple #[.string k, .bool true] := by
      by_cases h0 : 0 < n
      · rw [if_pos h0, h.s2.1 h0]
        rw [h.s1, if_pos (by simpa using h0)] at hbk
        exact hbk.symm
      · rw [if_neg h0]
        rw [h.s1, if_neg (by simpa using h0), h.s2.2 (by omega)] at hbk
        exact hbk.symm
    have hnm := h.nm
    have hfx := h.fx
    have hss := h.ss
    rw [ho] at hfx hss
    have F1 := fol1 F.B w F.S p t F.b vl l F.frm F.to F.stop F.body F.xs n ls k vn hfx hss (by omega) hq' (get_of_mem h.ss.mt h.ss.to.rs hmem) hto (by omega) h.rf ok.hbd ok.hB ok.hxs
    refine F1.mono ?_
    rintro e w' ⟨t', vl', l', rfl, fx', st', kp', nw', cn', no'⟩
    rw [← ho] at fx' st' kp' nw'
    have hS := ok.hS
    have hB := ok.hB
    have hlo : ∀ j, j < F.S + 6 → ¬ ft F.o t F.b vl j → ¬ ((F.S + 6 ≤ j ∧ j ≤ F.S + 9) ∨ ft F.o t F.b vl j) := fun j hj hn => by rintro (h1 | h1); omega; exact hn h1
    have hKE : Kept (ft F.o F.t0 F.b F.vl0) F.wE w' := h.kp.trans kp' (fun j hj hq => by
      rcases hq with hq | hq
      · omega
      · rcases h.nw j hq with h1 | h1
        · exact h1
        · omega)
    have hnw : ∀ j, ft F.o t' F.b vl' j → ft F.o F.t0 F.b F.vl0 j ∨ F.wE.heap.size ≤ j := fun j hj => by
      rcases nw' j hj with h1 | h1
      · exact h.nw j h1
      · have := h.kp.size; exact .inr (by omega)
    have hll : l'.length ≤ l.length + (if n < F.xs.length ∧ n < 300 then 1 else 0) := by
      have := cn' (fun _ => true)
      simpa using this
    have he0 : F.xs = [] → t' = F.t0 ∧ vl' = F.vl0 ∧ l' = F.l0 ∧ Below F.S F.wE w' := fun hx => by
      obtain ⟨q1, q2, q3, q4⟩ := no' (by rw [hx]; simp)
      obtain ⟨r1, r2, r3, r4⟩ := h.e0 hx
      exact ⟨q1.trans r1, q2.trans r2, q3.trans r3, r4.trans (q4.below (by have := h.nz; omega) (fun j hj => by omega))⟩
    refine ⟨_, rfl, ?_, fun hr => ?_, fun hr => ?_⟩
    · intro j cs ty hj hb ht
      refine hp_kept hb kp' ?_
      rintro (h1 | h1)
      · omega
      · exact h.ss.notft hb (by rcases ht with rfl | rfl | rfl <;> decide) h1
    · have hne : ((n : Int) + 1 == F.stop) = false := by simpa using hr
      rw [hne] at fx'
      have hm := h.mm
      have hahp : ahead true k l' ≤ ahead true k l + (if n < F.xs.length ∧ n < 300 then 1 else 0) := by
        rw [ahead_eq, ahead_eq]
        exact cn' (fun x => if true then kl k x else !kl x k)
      refine ⟨2 * (300 - (n + 1)) + ahead true k l', t', ?_, n + 1, vl', l', k, ?_⟩
      · by_cases hc : n < F.xs.length ∧ n < 300
        · rw [if_pos hc] at hahp; omega
        · rw [if_neg hc] at hahp; omega
      · refine ⟨by simpa using fx', by simp, ⟨fun _ => rfl, fun h0 => by omega⟩, st', ⟨?_, ?_, ?_⟩, ?_, Nat.le_trans h.nz kp'.size, Nat.le_refl _, ?_, ?_, hKE, hnw, he0⟩
        · exact hp_kept h.it.t kp' (hlo _ (by have := ok.hg1; omega) (h.ss.notft h.it.t (by decide)))
        · exact hp_kept h.it.f kp' (hlo _ (by have := ok.hg2; omega) (h.ss.notft h.it.f (by decide)))
        · exact hp_kept h.it.e kp' (hlo _ (by have := ok.hg3; omega) (h.ss.notft h.it.e (by decide)))
        · exact h.rf.keptE kp' (fun hc j hj hq => by
            have h1 := ok.hbd (flat_ne hc) j hj
            rcases hq with hq | hq
            · omega
            · have := (h.ss.lt j hq).1; omega)
        · by_cases hc : n < F.xs.length ∧ n < 300
          · rw [if_pos hc] at hahp; omega
          · rw [if_neg hc] at hahp; omega
        · have := h.ln
          by_cases hc : n < F.xs.length ∧ n < 300
          · rw [if_pos hc] at hll; omega
          · rw [if_neg hc] at hll; omega
    · have hne : ((n : Int) + 1 == F.stop) = true := by simpa using hr
      rw [hne] at fx'
      have e : (n : Int) + 1 = F.stop := by simpa using hne
      refine ⟨n + 1, t', vl', l', k, by simpa using fx', by simpa using e, by omega, st', hKE, hnw, ?_, he0⟩
      have := h.ln
      by_cases hc : n < F.xs.length ∧ n < 300
      · rw [if_pos hc] at hll; omega
      · rw [if_neg hc] at hll; omega

end Go.Proofs.Ytkalppcekmlgbaa
