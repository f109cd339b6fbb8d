import Derived.Test.YtkalppcekmlgbaaJb
namespace Go.Proofs.Ytkalppcekmlgbaa
open Go.RowKit

/-- What is fixed in TableNested's loop. -/
structure Nk where
  w0 : World
  T : Nat
  R : Nat
  p : Nat
  b : Nat
  frm : ByteArray
  to : ByteArray
  g1 : Nat
  g2 : Nat
  g3 : Nat
  body : Value
  xs : List Sx

abbrev Nk.S (F : Nk) : Nat := F.w0.heap.size

structure Nk.ok (F : Nk) : Prop where
  hR : F.S + 2 < F.T ∧ F.T + 2 < F.R
  hg : F.g1 < F.R ∧ F.g2 < F.R ∧ F.g3 < F.R
  hbd : F.xs ≠ [] → ∀ j, F.body.ownBlock = some j → j < F.S
  hxs : ∀ x ∈ F.xs, x.key.size ≤ 281474976710656
  hts : F.to.size ≤ 281474976710656

structure NI (F : Nk) (m : Nat) (st : Bool) (last : ByteArray) (t : Tr) (w : World) (n : Nat) (vl : Value) (l : List Pr) (ls : ByteArray) : Prop where
  nx : Nx w F.S F.T F.R F.p F.b F.frm F.to F.body F.g1 F.g2 F.g3 n ls
  s1 : st = decide (0 < n)
  s2 : (0 < n → ls = last) ∧ (n = 0 → last = F.frm)
  ss : St F.S w (some ⟨F.p, 0, none⟩) t F.b vl l
  it : It w F.g1 F.g2 F.g3 (some ⟨F.p, 0, none⟩) F.frm F.to
  rf : Rf w 5 F.body F.xs.length (F.xs.flatMap Sx.cells)
  nz : F.R + 4 ≤ w.heap.size
  mm : 1000 * (8 - n) + ahead st last l ≤ m
  nm : n + m ≤ 95000
  ln : l.length ≤ 300 + min n 8
  bl : Below F.S F.w0 w

def NII (F : Nk) (m : Nat) (st : Bool) (last : ByteArray) (t : Tr) (w : World) : Prop := ∃ n vl l ls, NI F m st last t w n vl l ls

theorem nes_body (F : Nk) (ok : F.ok) : Body (F.R + 4) (some ⟨F.p, 0, none⟩) F.frm F.to F.g1 F.g2 F.g3 15 [.pointer (some ⟨F.T + 2, 0, none⟩), .pointer (some ⟨F.S, 0, none⟩), .pointer (some ⟨F.R + 2, 0, none⟩), .pointer (some ⟨F.R + 3, 0, none⟩), .pointer (some ⟨F.R + 1, 0, none⟩), .pointer (some ⟨F.S + 2, 0, none⟩), .pointer (some ⟨F.T, 0, none⟩), .pointer (some ⟨F.R, 0, none⟩), .pointer (some ⟨F.S + 1, 0, none⟩)] (NII F) (fun _ => False) where
  tb := by
    rintro m st last t w ⟨n, vl, l, ls, h⟩
    exact ⟨h.ss.to, short_of h.ss.mt h.ss.sh⟩
  it := by
    rintro m st last t w ⟨n, vl, l, ls, h⟩
    exact h.it
  nn := by
    rintro m st last t w ⟨n, vl, l, ls, h⟩
    exact h.nz
  keep := by
    rintro m st last t w w' Q ⟨n, vl, l, ls, h⟩ hk hQ
    have hR := ok.hR
    have hg := ok.hg
    have hlo : ∀ j, j < F.R + 4 → ¬ Q j := fun j hj hq => by have := (hQ j hq).1; omega
    have hft : ∀ j, ft (some ⟨F.p, 0, none⟩) t F.b vl j → ¬ Q j := fun j hj hq => by
      obtain ⟨-, cs, ty, e, ht⟩ := hQ j hq
      obtain ⟨cs', ty', e', ht'⟩ := h.ss.ty hj
      have := ty9 e e'
      subst this
      rcases ht with rfl | rfl | rfl <;> rcases ht' with h | h | h | h <;> cases h
    refine ⟨n, vl, l, ls, h.nx.kept hk (fun j _ h2 => hlo j (by omega)) (hlo _ (by omega)) (hlo _ (by omega)) (fun j _ h2 => hlo j (by omega)), h.s1, h.s2, h.ss.kept hk hft, ⟨hp_kept h.it.t hk (hlo _ (by omega)), hp_kept h.it.f hk (hlo _ (by omega)), hp_kept h.it.e hk (hlo _ (by omega))⟩, h.rf.keptE hk (fun hc j hj => hlo j (by have := ok.hbd (flat_ne hc) j hj; omega)), Nat.le_trans h.nz hk.size, h.mm, h.nm, h.ln, h.bl.trans (hk.below (by have := h.nz; omega) (fun j hj => hlo j (by omega)))⟩
  run := by
    rintro m st last t w bb k v ⟨n, vl, l, ls, h⟩ hq hto
    have hR := ok.hR
    have hg := ok.hg
    obtain ⟨vn, rfl, hmem, hah⟩ := ahead_less h.ss.mt hq
    have hbk := nx_book h.ss.mt h.ss.to.rs st last
    rw [hq] at hbk
    have hq' : (if 0 < n then bnextV ls l else bleastV F.frm l) = .tuple #[.string k, .bool true] := by
      by_cases h0 : 0 < n
      · rw [if_pos h0, h.s2.1 h0]
        rw [h.s1, if_pos (by simpa using h0)] at hbk
        exact hbk.symm
      · rw [if_neg h0]
        rw [h.s1, if_neg (by simpa using h0), h.s2.2 (by omega)] at hbk
        exact hbk.symm
    have hnm := h.nm
    have hln := h.ln
    have N1 := nes1 F.S w F.S F.T F.R F.p t F.b vl l F.frm F.to F.body F.xs F.g1 F.g2 F.g3 n ls k vn h.nx h.ss hR (by omega) hq' (get_of_mem h.ss.mt h.ss.to.rs hmem) (by omega) h.rf ok.hbd (Nat.le_refl _) ok.hxs h.it hg (h.ss.sh _ hmem) ok.hts
    refine N1.mono ?_
    rintro e w' ⟨rfl, t', vl', l', nx', sq', h8⟩
    have kp' := sq'.kp
    have hlo : ∀ j, j < F.R + 1 → ¬ ft (some ⟨F.p, 0, none⟩) t F.b vl j → ¬ ((F.R + 1 ≤ j ∧ j ≤ F.R + 3) ∨ ft (some ⟨F.p, 0, none⟩) t F.b vl j) := fun j hj hn => by rintro (h1 | h1); omega; exact hn h1
    refine ⟨true, rfl, ?_, fun _ => ?_, fun hr => (by cases hr)⟩
    · intro j cs ty hj hb ht
      refine hp_kept hb kp' ?_
      rintro (h1 | h1)
      · omega
      · exact h.ss.notft hb (by rcases ht with rfl | rfl | rfl <;> decide) h1
    · have hm := h.mm
      have hll := sq'.ln
      have hap : ahead true k l' ≤ l'.length := List.countP_le_length
      have hlt : 1000 * (8 - (n + 1)) + ahead true k l' < m := by
        by_cases hn8 : n < 8
        · rw [if_pos hn8] at hll; omega
        · obtain ⟨-, rfl⟩ := h8 (by omega)
          omega
      refine ⟨1000 * (8 - (n + 1)) + ahead true k l', t', hlt, n + 1, vl', l', k, ?_⟩
      refine ⟨by simpa using nx', by simp, ⟨fun _ => rfl, fun h0 => by omega⟩, sq'.st, ⟨?_, ?_, ?_⟩, ?_, Nat.le_trans h.nz kp'.size, Nat.le_refl _, by omega, ?_, ?_⟩
      · exact hp_kept h.it.t kp' (hlo _ (by omega) (h.ss.notft h.it.t (by decide)))
      · exact hp_kept h.it.f kp' (hlo _ (by omega) (h.ss.notft h.it.f (by decide)))
      · exact hp_kept h.it.e kp' (hlo _ (by omega) (h.ss.notft h.it.e (by decide)))
      · exact h.rf.keptE kp' (fun hc j hj hq => by
          have h1 := ok.hbd (flat_ne hc) j hj
          rcases hq with hq | hq
          · omega
          · have := (h.ss.lt j hq).1; omega)
      · by_cases hn8 : n < 8
        · rw [if_pos hn8] at hll; omega
        · rw [if_neg hn8] at hll; omega
      · exact Kept.belowOf h.bl kp' (by have := h.nz; omega) (fun j hj => by
          rcases hj with hj | hj
          · omega
          · exact (h.ss.lt j hj).1)

abbrev fourN (w : World) (g1 g2 g3 : Nat) : World := (((w.alloc (.cells #[itV g1 g2 g3] 36)).alloc (.cells #[.bool true] 4)).alloc (.cells #[.int .i64 0] 3)).alloc (.cells #[.string ⟨#[]⟩] 9)
theorem fourN_below (w : World) (g1 g2 g3 : Nat) : Below w.heap.size w (fourN w g1 g2 g3) := (((below_new _ _).alloc (by simp) _).alloc (by simp; omega) _).alloc (by simp; omega) _

/-- The first boxes. -/
structure NB (w0 w : World) (T p b : Nat) (frm to : ByteArray) (body : Value) : Prop where
  bf : Bx w w0.heap.size frm
  be : Bx w (w0.heap.size + 1) to
  bd : w.heap[w0.heap.size + 2]? = some (.cells #[body] 22 (0, 0))
  bt : w.heap[T]? = some (.cells #[.pointer (some ⟨p, 0, none⟩)] 23 (0, 0))
  bb : w.heap[T + 2]? = some (.cells #[.pointer (some ⟨b, 0, none⟩)] 29 (0, 0))
  hT : w0.heap.size + 2 < T

theorem NB.kept {w0 w w' : World} {T p b : Nat} {frm to : ByteArray} {body : Value} {B : Nat} {o : Option Addr} {t : Tr} {b' : Nat} {vl : Value} {l : List Pr} (h : NB w0 w T p b frm to body) (hs : St B w o t b' vl l) (hk : Kept (ft o t b' vl) w w') : NB w0 w' T p b frm to body :=
  ⟨hp_kept h.bf hk (hs.notft h.bf (by decide)), hp_kept h.be hk (hs.notft h.be (by decide)), hp_kept h.bd hk (hs.notft h.bd (by decide)), hp_kept h.bt hk (hs.notft h.bt (by decide)), hp_kept h.bb hk (hs.notft h.bb (by decide)), h.hT⟩
theorem NB.below {w0 w w' : World} {T p b : Nat} {frm to : ByteArray} {body : Value} (h : NB w0 w T p b frm to body) (hk : Below w.heap.size w w') : NB w0 w' T p b frm to body :=
  ⟨hp_below h.bf hk (hp_lt h.bf), hp_below h.be hk (hp_lt h.be), hp_below h.bd hk (hp_lt h.bd), hp_below h.bt hk (hp_lt h.bt), hp_below h.bb hk (hp_lt h.bb), h.hT⟩

/-- What the loop leaves. -/
structure NE (w0 w : World) (T R p b : Nat) : Prop where
  bt : w.heap[T]? = some (.cells #[.pointer (some ⟨p, 0, none⟩)] 23 (0, 0))
  bb : w.heap[T + 2]? = some (.cells #[.pointer (some ⟨b, 0, none⟩)] 29 (0, 0))
  bo : w.heap[R + 1]? = some (.cells #[.bool true] 4 (0, 0))
  ss : ∃ t vl l, St w0.heap.size w (some ⟨p, 0, none⟩) t b vl l ∧ l.length ≤ 400
  bl : Below w0.heap.size w0 w

theorem nes_iter {w0 w : World} {T p b : Nat} {frm to : ByteArray} {body : Value} {xs : List Sx} {t : Tr} {vl : Value} {l : List Pr} {g1 g2 g3 : Nat} (hb : NB w0 w T p b frm to body) (hs : St w0.heap.size w (some ⟨p, 0, none⟩) t b vl l) (hl : l.length ≤ 300) (hi : It w g1 g2 g3 (some ⟨p, 0, none⟩) frm to) (har : Ar w0 body xs) (hbl : Below w0.heap.size w0 w) (hts : to.size ≤ 281474976710656) :
    Calls Try.prog 27 #[.func (.func 15) #[] #[.pointer (some ⟨T + 2, 0, none⟩), .pointer (some ⟨w0.heap.size, 0, none⟩), .pointer (some ⟨w.heap.size + 2, 0, none⟩), .pointer (some ⟨w.heap.size + 3, 0, none⟩), .pointer (some ⟨w.heap.size + 1, 0, none⟩), .pointer (some ⟨w0.heap.size + 2, 0, none⟩), .pointer (some ⟨T, 0, none⟩), .pointer (some ⟨w.heap.size, 0, none⟩), .pointer (some ⟨w0.heap.size + 1, 0, none⟩)], .pointer (some ⟨g1, 0, none⟩), .pointer (some ⟨g2, 0, none⟩), .pointer (some ⟨g3, 0, none⟩)] (fourN w g1 g2 g3)
      fun e w' => e = .returned (.tuple #[]) ∧ NE w0 w' T w.heap.size p b := by
  have b1 := fourN_below w g1 g2 g3
  let F : Nk := ⟨w0, T, w.heap.size, p, b, frm, to, g1, g2, g3, body, xs⟩
  have ok : F.ok := ⟨⟨hb.hT, hp_lt hb.bb⟩, ⟨hp_lt hi.t, hp_lt hi.f, hp_lt hi.e⟩, fun hx j hj => har.1.there (fun e => hx (by cases xs with | nil => rfl | cons a r => cases e)) j hj, fun x hx => (har.2 x hx).1, hts⟩
  have hah : ahead false frm l ≤ l.length := List.countP_le_length
  have hb' := hb.below b1
  refine (iter15 (T + 2) w0.heap.size (w.heap.size + 2) (w.heap.size + 3) (w.heap.size + 1) (w0.heap.size + 2) T w.heap.size (w0.heap.size + 1) (nes_body F ok) (8000 + ahead false frm l) t (fourN w g1 g2 g3) ⟨0, vl, l, ⟨#[]⟩, ⟨hb'.bf, hb'.be, hb'.bd, hb'.bt, hb'.bb, ?_, ?_, ?_, ?_⟩, rfl, ⟨fun h => by omega, fun _ => rfl⟩, hs.below b1, ⟨hp_below hi.t b1 (hp_lt hi.t), hp_below hi.f b1 (hp_lt hi.f), hp_below hi.e b1 (hp_lt hi.e)⟩, har.1.below (below_on hbl b1), ?_, by simp [F], by omega, by omega, below_on hbl b1⟩).mono ?_
  · exact hp_alloc (hp_alloc (hp_alloc (at_new (i := 0) _ (by simp)) _) _) _
  · exact hp_alloc (hp_alloc (at_new _ (by simp)) _) _
  · exact hp_alloc (at_new _ (by simp)) _
  · exact at_new _ (by simp)
  · show w.heap.size + 4 ≤ _
    simp
  · rintro e w' ⟨rfl, ⟨m, st, last, t', ⟨n, vl', l', ls, h⟩, -⟩ | hf⟩
    · exact ⟨rfl, h.nx.bt, h.nx.bb, h.nx.bo, ⟨t', vl', l', h.ss, by have := h.ln; omega⟩, h.bl⟩
    · exact hf.elim

end Go.Proofs.Ytkalppcekmlgbaa
