import Derived.Test.YtlmompdfombgeaaGreatK36
import Derived.Test.YtlmompdfombgeaaGreatK33
import Derived.Test.YtlmompdfombgeaaGreatK22
import Derived.Test.YtlmompdfombgeaaGreatK21
import Derived.Test.YtlmompdfombgeaaGreatK29
namespace Go.Proofs.YtlmompdfombgeaaGreat
open Go.RowKit Go.MapKept

set_option maxRecDepth 100000 in
set_option maxHeartbeats 800000 in
theorem ints_same (a b : Value) (ls : List Int) (w : World) (ha : Ln w a ls) (hb : Ln w b ls) (hl : ls.length ≤ 1000000) :
    Calls Tryz.prog 45 #[a, b] w fun x w' => x = .returned (.bool true) ∧ DN w w' := by
  obtain ⟨ao, acap, rfl, hac, -⟩ := ha.shape
  obtain ⟨bo, bcap, rfl, hbc, -⟩ := hb.shape
  have HA := hid ha
  have HB := hid hb
  clear ha hb
  go_enter Tryz.func45, Tryz.ntmps45
  go_wp2
  go_loopw [5] (fun i wr => ∃ (k : Nat), k ≤ ls.length ∧ i = .int .i64 k ∧ DN w wr) (fun i _ => ls.length - (intOf i).toNat)
  case atStart => exact ⟨0, Nat.zero_le _, rfl, DN.refl w⟩
  case round =>
    obtain ⟨k, hk, rfl, hdn⟩ := hrel
    by_cases hlt : k < ls.length
    · obtain ⟨ab, aoff, cap1, e, -, -, haj⟩ := Rf.elem (m := 1) (f := fun x : Int => [Value.int .i64 x]) (fun _ => rfl) (by omega) HA.out k hlt
      injection e with e1 e2 e3
      subst e1 e3
      clear e2
      obtain ⟨bb, boff, cap2, e, -, -, hbj⟩ := Rf.elem (m := 1) (f := fun x : Int => [Value.int .i64 x]) (fun _ => rfl) (by omega) HB.out k hlt
      injection e with e1 e2 e3
      subst e1 e3
      clear e2
      obtain ⟨x, hx⟩ : ∃ x, x = ls[k] := ⟨_, rfl⟩
      rw [← hx] at haj hbj
      have ca : wr.cell? ⟨ab, aoff + k, none⟩ = some (.int .i64 x) := (hdn.cell _).trans (by have := haj 0 _ rfl; simpa using this)
      have cb : wr.cell? ⟨bb, boff + k, none⟩ = some (.int .i64 x) := (hdn.cell _).trans (by have := hbj 0 _ rfl; simpa using this)
      have i2 : (k : Int) < (ls.length : Int) := by omega
      clear haj hbj hx
      go_wp2
      go_quiet (fail)
      go_wp2
      go_roundw
      case rel => first | exact ⟨k + 1, by omega, by go_num, hdn.more _⟩ | exact ⟨k + 1, by omega, by go_num, hdn⟩ | ((repeat apply Exists.intro); exact ⟨⟨k + 1, by omega, by go_num, hdn.more _⟩, rfl⟩)
      case measure => simp [intOf]; omega
    · have i2 : ¬ (k : Int) < (ls.length : Int) := by omega
      go_wp2
      go_ret
      exact ⟨rfl, hdn⟩

/-- The short list out of the marked one. -/
theorem Qk.ln {w : World} {B : Nat} {q : Qk} (h : q.ok w B) : Ln w (.slice (some ⟨q.g, 0, none⟩) q.lost.length q.cap) q.lost ∧ q.lost.length + 2 ≤ q.cap ∧ w.cell? ⟨q.g, q.lost.length, none⟩ = some (.int .i64 703) ∧ w.cell? ⟨q.g, q.lost.length + 1, none⟩ = some (.int .i64 704) := by
  have hm : q.cap ≤ maxLen ∧ q.lost.length + 2 ≤ q.cap := by
    rcases h.2 with ⟨h, _⟩ | ⟨_, _, _, h, _, _, hc, hm, _⟩
    · cases h
    · injection h with _ _ h; rw [h]; exact ⟨hm, hc⟩
  have hlen : (ics q.lost).length = q.lost.length := by simpa [ics] using flat_len (fun x : Int => [Value.int .i64 x]) 1 (fun _ => rfl) q.lost
  refine ⟨⟨by simpa [ics] using hlen, ?_, .inr ⟨_, q.cap, rfl, by omega, hm.1, fun j u hu => ?_⟩⟩, hm.2, ?_, ?_⟩
  · intro u hu
    obtain ⟨y, _, hy⟩ := List.mem_flatMap.1 hu
    simp at hy
    subst hy
    rfl
  · have hj : j < (ics q.lost).length := by
      rcases Nat.lt_or_ge j (ics q.lost).length with h | h
      · exact h
      · have : (ics q.lost)[j]? = some u := hu
        rw [List.getElem?_eq_none h] at this; cases this
    exact h.cells (g := q.g) rfl j u (by rw [List.getElem?_append_left hj]; exact hu)
  · have := h.cells (g := q.g) rfl q.lost.length (.int .i64 703) (by rw [List.getElem?_append_right (by omega), hlen]; simp)
    rwa [add_lit, Nat.zero_add] at this
  · have := h.cells (g := q.g) rfl (q.lost.length + 1) (.int .i64 704) (by rw [List.getElem?_append_right (by omega), hlen]; simp)
    rwa [add_lit, Nat.zero_add] at this

set_option maxRecDepth 100000 in
set_option maxHeartbeats 3200000 in
theorem unpicked_any (B g cap : Nat) (pn : Int) (fv : Value) (ps : List Pk) (qs : List Qk) (w : World) (hq : Qks w B g cap ps qs) (h : Pks w fv ps) (hl : ps.length ≤ 300) (hl2 : ∀ p ∈ ps, p.lost.length ≤ 300) :
    Calls Tryz.prog 66 #[.agg #[.int .i64 pn, .slice (some ⟨g, 0, none⟩) ps.length cap], .agg #[.int .i64 pn, fv]] w fun x w' => x = .returned (.bool true) ∧ Below w.heap.size w w' := by
  obtain ⟨ao, cp, rfl, hc1, hc2⟩ := h.1.shape
  have hcap : ps.length + 1 ≤ cap := by
    rcases hq.row.2 with ⟨h, _⟩ | ⟨_, _, _, h, _, _, hc, _⟩
    · cases h
    · injection h with _ _ h; omega
  have sl := slice39 ⟨g, 0, none⟩ ps.length (ps.length + 1) cap hcap
  rw [show (((ps.length + 1 : Nat)) : Int) = (ps.length : Int) + 1 by omega] at sl
  have hflat := flat_len qcs 2 (fun _ => rfl) qs
  have m0 : w.cell? ⟨g, ps.length * 2, none⟩ = some (.int .i64 705) := by
    have := hq.row.cells (g := g) rfl (ps.length * 2) (.int .i64 705) (by rw [List.getElem?_append_right (by rw [hflat, hq.len]; omega), hflat, hq.len]; simp)
    rwa [add_lit, Nat.zero_add] at this
  have hgl : g < w.heap.size := World.block_lt_of_cell? _ _ m0
  have HQ := hid hq
  have HP := hid h
  have HL2 := hid hl2
  clear hq h hl2 hflat
  have hb0 : Below w.heap.size w ((w.alloc (.cells #[.int .i64 pn, .slice (some ⟨g, 0, none⟩) ps.length cap] 41)).alloc (.cells #[.int .i64 pn, .slice ao ps.length cp] 41)) := ((Below.refl _ _).alloc (Nat.le_refl _) _).alloc (by simp) _
  have hp0 : ((w.alloc (.cells #[.int .i64 pn, .slice (some ⟨g, 0, none⟩) ps.length cap] 41)).alloc (.cells #[.int .i64 pn, .slice ao ps.length cp] 41)).cell? ⟨w.heap.size, 1, none⟩ = some (.slice (some ⟨g, 0, none⟩) ps.length cap) := by simp [go_sem]
  have hp1 : ((w.alloc (.cells #[.int .i64 pn, .slice (some ⟨g, 0, none⟩) ps.length cap] 41)).alloc (.cells #[.int .i64 pn, .slice ao ps.length cp] 41)).cell? ⟨w.heap.size + 1, 1, none⟩ = some (.slice ao ps.length cp) := by simp [go_sem]
  have H0 := hid (And.intro hb0 (And.intro hp0 hp1))
  clear hb0 hp0 hp1
  go_enter Tryz.func66, Tryz.ntmps66
  go_wp2
  go_loopw [6] (fun i wr => ∃ (k : Nat), k ≤ ps.length ∧ i = .int .i64 k ∧ Hid (DN ((w.alloc (.cells #[.int .i64 pn, .slice (some ⟨g, 0, none⟩) ps.length cap] 41)).alloc (.cells #[.int .i64 pn, .slice ao ps.length cp] 41)) wr)) (fun i _ => ps.length - (intOf i).toNat)
  case atStart => exact ⟨0, Nat.zero_le _, by go_num, hid (DN.refl _)⟩
  case round =>
    obtain ⟨k, hk, rfl, HD⟩ := hrel
    by_cases hlt : k < ps.length
    · have hdn := HD.out
      obtain ⟨hb0, hp0, hp1⟩ := H0.out
      have hW : ∀ a v, w.cell? a = some v → wr.cell? a = some v := fun a v h => (hdn.cell a).trans ((hb0.cell (World.block_lt_of_cell? _ _ h)).trans h)
      obtain ⟨b, off, cap', e, -, -, hcell⟩ := Rf.elem (f := pcs) (fun _ => rfl) (by omega) HP.out.1 k hlt
      injection e with e1 e2 e3
      subst e1 e3
      clear e2
      have a1 := (hdn.cell _).trans hp0
      have b1 := (hdn.cell _).trans hp1
      have hkq : k < qs.length := by rw [HQ.out.len]; exact hlt
      have hsame := HQ.out.same k qs[k] ps[k] (by simp [hkq]) (by simp [hlt])
      have hqok := HQ.out.ok qs[k] (List.getElem_mem hkq)
      obtain ⟨x, hxe⟩ : ∃ x, x = ps[k] := ⟨_, rfl⟩
      obtain ⟨q, hqe⟩ : ∃ q, q = qs[k] := ⟨_, rfl⟩
      have hmem := List.getElem_mem hlt
      rw [← hxe] at hcell hmem hsame
      rw [← hqe] at hsame hqok
      have z0 := HQ.out.row.cells (g := g) rfl (k * 2) (.int .i64 q.done) (by rw [List.getElem?_append_left (by rw [flat_len qcs 2 (fun _ => rfl)]; omega), ← Nat.add_zero (k * 2), flat_get qcs 2 (fun _ => rfl) _ _ _ (by omega)]; simp [hkq, ← hqe, qcs])
      have z1 := HQ.out.row.cells (g := g) rfl (k * 2 + 1) (.slice (some ⟨q.g, 0, none⟩) q.lost.length q.cap) (by rw [List.getElem?_append_left (by rw [flat_len qcs 2 (fun _ => rfl)]; omega), flat_get qcs 2 (fun _ => rfl) _ _ _ (by omega)]; simp [hkq, ← hqe, qcs])
      rw [add_lit, Nat.zero_add] at z0 z1
      have hpok := HP.out.2 x hmem
      have hlost := HL2.out x hmem
      obtain ⟨hln2, hcp2, k3, k4⟩ := Qk.ln hqok
      obtain ⟨dn, lv, lost⟩ := x
      obtain ⟨qd, qg, qc, ql⟩ := q
      obtain ⟨s1, s2⟩ := hsame
      dsimp only at s1 s2 z0 z1 hln2 hcp2 k3 k4
      subst s1 s2
      obtain ⟨-, hln, -, -⟩ := hpok
      obtain ⟨a5, q5, e5, d9, d10⟩ := hln.shape
      dsimp only at e5 hlost d9 d10
      subst e5
      have y0 : w.cell? ⟨b, off + k * 2, none⟩ = some (.int .i64 qd) := hcell 0 _ rfl
      have y1 : w.cell? ⟨b, off + k * 2 + 1, none⟩ = some (.slice a5 ql.length q5) := hcell 1 _ rfl
      have x0 := hW _ _ y0
      have x1 := hW _ _ y1
      have u0 := hW _ _ z0
      have u1 := hW _ _ z1
      have t3 := hW _ _ k3
      have t4 := hW _ _ k4
      have sq := slice64 ⟨qg, 0, none⟩ ql.length (ql.length + 2) qc hcp2
      rw [show (((ql.length + 2 : Nat)) : Int) = (ql.length : Int) + 2 by omega] at sq
      have i2 : (k : Int) < (ps.length : Int) := by omega
      have hL1 : ∀ n, Ln (wr.drewN n) (.slice (some ⟨qg, 0, none⟩) ql.length qc) ql := fun n => (by
        obtain ⟨m, rfl⟩ := hdn
        exact hln2.below (below_drewN (below_drewN hb0 m) n))
      have hL2 : ∀ n, Ln (wr.drewN n) (.slice a5 ql.length q5) ql := fun n => (by
        obtain ⟨m, rfl⟩ := hdn
        exact hln.below (below_drewN (below_drewN hb0 m) n))
      have HL := hid (And.intro hL1 hL2)
      clear hcell hmem hln hln2 y0 y1 hxe hqe hW hdn hb0 hp0 hp1 hkq hqok z0 z1 k3 k4 hL1 hL2
      have hcall : ∀ n, Calls Tryz.prog 45 #[.slice (some ⟨qg, 0, none⟩) ql.length qc, .slice a5 ql.length q5] (wr.drewN n) fun e w' => e = .returned (.bool true) ∧ ∃ m, w' = (wr.drewN n).drewN m := fun n => ints_same _ _ ql (wr.drewN n) (HL.out.1 n) (HL.out.2 n) (by omega)
      have HC := hid hcall
      clear hcall
      go_wp2_with fail
      go_quiet ((go_at_call 45; exact Calls.quiet_of (HC.out _)))
      go_wp2
      go_roundw
      case rel => exact ⟨k + 1, by omega, by go_num, hid (HD.out.more _)⟩
      case measure => simp [intOf]; omega
    · have i2 : ¬ (k : Int) < (ps.length : Int) := by omega
      go_wp2
      go_ret
      obtain ⟨m, rfl⟩ := HD.out
      exact ⟨rfl, below_drewN H0.out.1 m⟩

end Go.Proofs.YtlmompdfombgeaaGreat

namespace Go.Proofs.YtlmompdfombgeaaGreat
open Go.RowKit Go.MapKept

theorem Qks.kept {w w' : World} {B g cap : Nat} {ps : List Pk} {qs : List Qk} {S : Nat → Prop} (h : Qks w B g cap ps qs) (hk : Kept S w w') (hS : ∀ k, B ≤ k → ¬ S k) : Qks w' B g cap ps qs :=
  ⟨ownsRow_kept h.row hk (fun k hq => hS k (h.row.lt k hq).1), h.len, h.same, fun q hq => ownsRow_kept (h.ok q hq) hk (fun k hr => hS k ((h.ok q hq).lt k hr).1)⟩

end Go.Proofs.YtlmompdfombgeaaGreat

namespace Go.Proofs.YtlmompdfombgeaaGreat
open Go.RowKit Go.MapKept

theorem crash_sz {n : Nat} {D : Dq} (h : WD n D) (pn : Int) (pks : List (Int × List Int)) : szF (crashP pn pks D).1 ≤ heldD D := by
  show szF (toldN (D.namesAt (firstN pn D.turns.length)) (wholeN pks D)) ≤ _
  rw [told_live h (h.saf _)]
  refine Nat.le_trans (sum_le_map _ Fi.peak _ fun f hf => ?_) (live_le _)
  obtain ⟨i, hi⟩ := List.mem_iff_getElem?.1 (mem_liveF.1 hf).1
  rw [wholeN_at pks D h.nd i f hi]
  exact take_le_peak _ _ _

theorem crash_len {n : Nat} {D : Dq} (h : WD n D) (pn : Int) (pks : List (Int × List Int)) : (crashP pn pks D).1.length ≤ 512 := by
  have h1 : (crashP pn pks D).1.length ≤ D.files.length := by
    show (toldN _ _).length ≤ _
    rw [toldN_len]
    exact h.nlen (h.saf _)
  have h2 := h.cnt
  have h3 := h.lim
  omega

/-- A marked row's first part. -/
theorem owns_front {w : World} {B g cap m n k : Nat} {e : TypeId} {xs ys : List Value} (ho : w.ownsRow B e m (.slice (some ⟨g, 0, none⟩) (n + k) cap) (n + k) (xs ++ ys)) (hx : xs.length = n * m) (h1 : ∀ u ∈ xs, u.oneCell' = true) : Rf w m (.slice (some ⟨g, 0, none⟩) n cap) n xs := by
  have hm : cap ≤ maxLen ∧ n + k ≤ cap := by
    rcases ho.2 with ⟨h, _⟩ | ⟨_, _, _, h, _, _, hc, hm, _⟩
    · cases h
    · injection h with _ _ h; subst h; exact ⟨hm, hc⟩
  refine ⟨hx, h1, .inr ⟨_, cap, rfl, by omega, hm.1, fun j u hu => ?_⟩⟩
  exact ho.cells (g := g) rfl j u (by rw [List.getElem?_append_left (List.getElem?_eq_some_iff.1 hu).1]; exact hu)

def qPk (q : Qk) : Pk := ⟨q.done, .slice (some ⟨q.g, 0, none⟩) q.lost.length q.cap, q.lost⟩

theorem Qks.mem {w : World} {B g cap : Nat} {ps : List Pk} {qs : List Qk} (h : Qks w B g cap ps qs) {q : Qk} (hq : q ∈ qs) : ∃ p ∈ ps, q.done = p.done ∧ q.lost = p.lost := by
  obtain ⟨i, hi⟩ := List.mem_iff_getElem?.1 hq
  have hl := (List.getElem?_eq_some_iff.1 hi).1
  rw [h.len] at hl
  exact ⟨ps[i], List.getElem_mem hl, h.same i q ps[i] hi (List.getElem?_eq_getElem hl)⟩

/-- The marked picks are picks too. -/
theorem Qks.pks {w : World} {B g cap : Nat} {ps : List Pk} {qs : List Qk} (h : Qks w B g cap ps qs) (hi : ∀ p ∈ ps, I64 p.done ∧ ∀ x ∈ p.lost, I64 x) :
    Pks w (.slice (some ⟨g, 0, none⟩) ps.length cap) (qs.map qPk) ∧ pksOf (qs.map qPk) = pksOf ps ∧ (∀ k, pkBlk (.slice (some ⟨g, 0, none⟩) ps.length cap) (qs.map qPk) k → B ≤ k) ∧ (qs.map qPk).length = ps.length ∧ ∀ p ∈ qs.map qPk, ∃ p' ∈ ps, p.lost = p'.lost := by
  have hfm : (qs.map qPk).flatMap pcs = qs.flatMap qcs := by rw [List.flatMap_map]; rfl
  have hlen : (qs.map qPk).length = ps.length := by rw [List.length_map, h.len]
  refine ⟨⟨?_, fun p hp => ?_⟩, ?_, fun k hk => ?_, hlen, fun p hp => ?_⟩
  · rw [hlen, hfm]
    refine owns_front h.row ?_ ?_
    · rw [flat_len qcs 2 (fun _ => rfl), h.len]
    · intro u hu
      obtain ⟨q, _, hq⟩ := List.mem_flatMap.1 hu
      simp [qcs] at hq
      rcases hq with rfl | rfl <;> rfl
  · obtain ⟨q, hq, rfl⟩ := List.mem_map.1 hp
    obtain ⟨p', hp', e1, e2⟩ := h.mem hq
    refine ⟨by show I64 q.done; rw [e1]; exact (hi p' hp').1, ?_, by show ∀ x ∈ q.lost, _; rw [e2]; exact (hi p' hp').2, rfl⟩
    refine owns_front (h.ok q hq) ?_ ?_
    · exact flat_len (fun x : Int => [Value.int .i64 x]) 1 (fun _ => rfl) q.lost
    · intro u hu
      obtain ⟨x, _, hx⟩ := List.mem_flatMap.1 hu
      simp at hx
      subst hx
      rfl
  · unfold pksOf
    rw [List.map_map]
    apply List.ext_getElem?
    intro i
    rw [List.getElem?_map, List.getElem?_map]
    rcases Nat.lt_or_ge i ps.length with hl | hl
    · have hl2 : i < qs.length := by rw [h.len]; exact hl
      rw [List.getElem?_eq_getElem hl, List.getElem?_eq_getElem hl2]
      obtain ⟨e1, e2⟩ := h.same i qs[i] ps[i] (List.getElem?_eq_getElem hl2) (List.getElem?_eq_getElem hl)
      simp [qPk, e1, e2]
    · rw [List.getElem?_eq_none hl, List.getElem?_eq_none (by rw [h.len]; exact hl)]
      rfl
  · rcases hk with ⟨_, e⟩ | ⟨p, hp, _, e⟩
    · exact (h.row.lt k e).1
    · obtain ⟨q, hq, rfl⟩ := List.mem_map.1 hp
      exact ((h.ok q hq).lt k e).1
  · obtain ⟨q, hq, rfl⟩ := List.mem_map.1 hp
    obtain ⟨p', hp', _, e2⟩ := h.mem hq
    exact ⟨p', hp', e2⟩

theorem rf_low {w0 : World} {m n : Nat} {v : Value} {cs : List Value} (h : Rf w0 m v n cs) (h0 : 0 < n) (hm : 0 < m) {k : Nat} (e : v.ownBlock = some k) : k < w0.heap.size := by
  obtain ⟨b, off, cap, rfl, -, -, hc⟩ := h.lits h0 hm
  simp only [Value.ownBlock, Option.some.injEq] at e
  subst e
  have hl : 0 < cs.length := by rw [h.1]; exact Nat.mul_pos h0 hm
  have h1 := hc 0 (cs[0]'hl) (by simp)
  exact World.block_lt_of_cell? _ _ h1

/-- The picks' blocks are older. -/
theorem pk_low {w0 : World} {fv : Value} {pk : List Pk} (h : Pks w0 fv pk) {k : Nat} (e : pkBlk fv pk k) : k < w0.heap.size := by
  rcases e with ⟨h0, e⟩ | ⟨p, hp, h0, e⟩
  · exact rf_low h.1 h0 (by omega) e
  · exact rf_low (h.2 p hp).2.1 h0 (by omega) e

end Go.Proofs.YtlmompdfombgeaaGreat

namespace Go.Proofs.YtlmompdfombgeaaGreat
open Go.RowKit Go.MapKept

/-- A list of files in the heap, to be read. -/
def FbL (w : World) (v : Value) (l : List (ByteArray × List Int)) : Prop :=
  (∃ ao cap, v = .slice ao l.length cap) ∧ (0 < l.length → ∃ g cap, v = .slice (some ⟨g, 0, none⟩) l.length cap ∧ ∀ (i : Nat) (x : ByteArray × List Int), l[i]? = some x → ∃ a c, w.cell? ⟨g, i * 2, none⟩ = some (.string x.1) ∧ w.cell? ⟨g, i * 2 + 1, none⟩ = some (.slice a x.2.length c) ∧ Sl w (.slice a x.2.length c) x.2)

theorem FbL.below {w w' : World} {v : Value} {l : List (ByteArray × List Int)} (h : FbL w v l) (hb : Below w.heap.size w w') : FbL w' v l := by
  refine ⟨h.1, fun h0 => ?_⟩
  obtain ⟨g, cap, e, hat⟩ := h.2 h0
  refine ⟨g, cap, e, fun i x hx => ?_⟩
  obtain ⟨a, c, h1, h2, h3⟩ := hat i x hx
  exact ⟨a, c, (hb.cell (World.block_lt_of_cell? _ _ h1)).trans h1, (hb.cell (World.block_lt_of_cell? _ _ h2)).trans h2, h3.below hb⟩

theorem FbAt.fbl {w : World} {B : Nat} {v : Value} {l : List (ByteArray × List Int)} (h : FbAt w B v l) (hs : szF l ≤ 100000000) : FbL w v l := by
  refine ⟨h.shape, fun h0 => ?_⟩
  obtain ⟨g, cap, e, hat⟩ := h.at h0
  refine ⟨g, cap, e, fun i x hx => ?_⟩
  obtain ⟨Y, h1, h2, h3⟩ := hat i x hx
  have hle : x.2.length ≤ szF l := by
    have q1 := szF_take l i x hx
    have q2 := szF_take_le l (i + 1)
    omega
  exact ⟨_, _, h1, h2, sl_of_owns (B := 0) (h3.owns (Nat.zero_le _) (by unfold maxLen; omega))⟩

/-- The same in rows of its own. -/
structure FbO (w : World) (B : Nat) (v : Value) (l : List (ByteArray × List Int)) (vs : List Value) : Prop where
  n : vs.length = l.length
  r : w.ownsRow B 93 2 v l.length ((l.zip vs).flatMap fun x => [.string x.1.1, x.2])
  d : ∀ (i : Nat) (x : ByteArray × List Int) (u : Value), l[i]? = some x → vs[i]? = some u → w.ownsRow B 5 1 u x.2.length (B8 x.2)

theorem fbv_get : ∀ (l : List (ByteArray × List Int)) (ys : List Value) (k : Nat) (x : ByteArray × List Int) (u : Value), l[k]? = some x → ys[k]? = some u →
    ((l.zip ys).flatMap fun x => [Value.string x.1.1, x.2])[k * 2]? = some (.string x.1) ∧ ((l.zip ys).flatMap fun x => [Value.string x.1.1, x.2])[k * 2 + 1]? = some u
  | [], _, _, _, _, h, _ => by simp at h
  | _ :: _, [], _, _, _, _, h => by simp at h
  | y :: l, z :: ys, 0, x, u, h, h2 => by
    simp at h h2
    subst h h2
    exact ⟨rfl, rfl⟩
  | y :: l, z :: ys, k + 1, x, u, h, h2 => by
    have := fbv_get l ys k x u (by simpa using h) (by simpa using h2)
    rw [List.zip_cons_cons, List.flatMap_cons]
    refine ⟨?_, ?_⟩
    · rw [List.getElem?_append_right (by simp; omega)]
      simp only [List.length_cons, List.length_nil]
      rw [show (k + 1) * 2 - (0 + 1 + 1) = k * 2 by omega]
      exact this.1
    · rw [List.getElem?_append_right (by simp; omega)]
      simp only [List.length_cons, List.length_nil]
      rw [show (k + 1) * 2 + 1 - (0 + 1 + 1) = k * 2 + 1 by omega]
      exact this.2

theorem FbO.fbl {w : World} {B : Nat} {v : Value} {l : List (ByteArray × List Int)} {vs : List Value} (h : FbO w B v l vs) : FbL w v l := by
  refine ⟨own_shape h.r, fun h0 => ?_⟩
  obtain ⟨g, cap, e⟩ := own_some h.r h0
  refine ⟨g, cap, e, fun i x hx => ?_⟩
  have hi := (List.getElem?_eq_some_iff.1 hx).1
  have hn := h.n
  have hy : vs[i]? = some (vs[i]'(by omega)) := List.getElem?_eq_getElem _
  obtain ⟨c1, c2⟩ := fbv_get l vs i x _ hx hy
  have q1 := h.r.cells (g := g) (by rw [e]; rfl) _ _ c1
  have q2 := h.r.cells (g := g) (by rw [e]; rfl) _ _ c2
  rw [add_lit, Nat.zero_add] at q1 q2
  have hd := h.d i x _ hx hy
  obtain ⟨a, c, e2⟩ := own_shape hd
  rw [e2] at q2 hd
  exact ⟨a, c, q1, q2, sl_of_owns hd⟩

set_option maxRecDepth 100000 in
set_option maxHeartbeats 1600000 in
theorem files_fbl {w : World} {v v' : Value} {l : List (ByteArray × List Int)} (h : FbL w v l) (h' : FbL w v' l) (hl : l.length ≤ 1000000) (hs : szF l ≤ 100000000) : Calls Tryz.prog 39 #[v, v'] w fun x w' => x = .returned (.bool true) ∧ DN w w' := by
  obtain ⟨ao, cap, rfl⟩ := h.1
  obtain ⟨ao', cap', rfl⟩ := h'.1
  have H := hid (And.intro h h')
  clear h h'
  go_enter Tryz.func39, Tryz.ntmps39
  go_wp2
  go_loopw [5] (fun i wr => ∃ k : Nat, k ≤ l.length ∧ i = .int .i64 k ∧ DN w wr) (fun i _ => l.length - (intOf i).toNat)
  case atStart => exact ⟨0, Nat.zero_le _, by go_num, DN.refl w⟩
  case round =>
    obtain ⟨k, hk1, rfl, hdn⟩ := hrel
    by_cases hlt : k < l.length
    · obtain ⟨g, cp, e, hat⟩ := H.out.1.2 (by omega)
      injection e with e _ e'
      subst e e'
      obtain ⟨g', cp', e, hat'⟩ := H.out.2.2 (by omega)
      injection e with e _ e'
      subst e e'
      obtain ⟨a, c, q1, q2, q3⟩ := hat k l[k] (List.getElem?_eq_getElem hlt)
      obtain ⟨a', c', p1, p2, p3⟩ := hat' k l[k] (List.getElem?_eq_getElem hlt)
      have hsz : l[k].2.length ≤ szF l := by
        have h1 := szF_take l k l[k] (List.getElem?_eq_getElem hlt)
        have h2 := szF_take_le l (k + 1)
        omega
      obtain ⟨x, hx⟩ : ∃ x, x = l[k].1 := ⟨_, rfl⟩
      obtain ⟨bs, hbs⟩ : ∃ bs, bs = l[k].2 := ⟨_, rfl⟩
      rw [← hx] at q1 p1
      rw [← hbs] at q2 p2 q3 p3 hsz
      have c1 := (hdn.cell _).trans q1
      have c2 := (hdn.cell _).trans q2
      have c3 := (hdn.cell _).trans p1
      have c4 := (hdn.cell _).trans p2
      have i1 : (k : Int) < (l.length : Int) := by omega
      have hcall : ∀ n, Calls Tryz.prog 60 #[.slice a bs.length c, .slice a' bs.length c'] (wr.drewN n) fun e w' => e = .returned (.bool true) ∧ ∃ m, w' = (wr.drewN n).drewN m := fun n => by
        obtain ⟨q, rfl⟩ := hdn
        have s1 := q3.below (below_drewN (below_drewN (Below.refl _ w) q) n)
        have s2 := p3.below (below_drewN (below_drewN (Below.refl _ w) q) n)
        refine (bytes_any _ _ bs bs _ s1 s2 (by omega)).mono ?_
        rintro e w' ⟨⟨m, hm⟩, rfl⟩
        exact ⟨by simp, m, hm⟩
      have HC := hid hcall
      have hne : (!(x.toList == x.toList)) = false := by simp
      clear hx hbs q1 q2 q3 p1 p2 p3 hat hat' hcall
      go_wp2_with fail
      go_quiet ((go_at_call 60; exact Calls.quiet_of (HC.out _)))
      go_wp2
      go_roundw
      case rel => first | exact ⟨k + 1, by omega, by go_num, hdn.more _⟩ | exact ⟨k + 1, by omega, by go_num, hdn⟩ | ((repeat apply Exists.intro); exact ⟨⟨k + 1, by omega, by go_num, hdn.more _⟩, rfl⟩)
      case measure => simp [intOf]; omega
    · have i2 : ¬ (k : Int) < (l.length : Int) := by omega
      go_wp2
      go_ret
      exact ⟨rfl, hdn⟩

end Go.Proofs.YtlmompdfombgeaaGreat

namespace Go.Proofs.YtlmompdfombgeaaGreat
open Go.RowKit Go.MapKept

section
variable {w w' : World} {r : Nat} {R : Rt} {D : Dq} {n : Nat}

/-- Files that can be read. -/
structure FOK (D : Dq) : Prop where
  n : D.files.length ≤ 1000
  d : (D.files.map Fi.no).Nodup
  f : ∀ f ∈ D.files, CutsOK f.safe f.cs ∧ f.cs.length ≤ 100000 ∧ f.peak ≤ 4194304

theorem WD.fok (hW : WD n D) (hn : n ≤ 100000) : FOK D :=
  ⟨by have h1 := hW.cnt; have h2 := hW.lim; omega, hW.nd, fun f hf => ⟨(hW.chg f hf).2, by have := (hW.chg f hf).1; omega, hW.peak hf⟩⟩

theorem RdT.byt_f (h : RdT w r R D) (hF : FOK D) {f : Fi} (hf : f ∈ D.files) (m : Nat) (hm : m ≤ f.cs.length) : ∀ W, Below w.heap.size w W →
    Calls Tryz.prog 106 #[.agg #[.int .i64 f.no, R.bv f.no, R.pv f.no], .int .i64 m] W fun e w' => ∃ v1 v2, e = .returned (.tuple #[v1, v2]) ∧ By W.heap.size w' v1 v2 (rowC f.safe (f.cs.take m)) ∧ Below W.heap.size W w' := by
  intro W hb
  have h2 := h.below hb
  obtain ⟨e, hp⟩ := h2.prow hf
  have := rbytes_any f.no (R.bv f.no) (R.pv f.no) f.safe (R.ps f.no) m W (h2.saf f hf) hp (fun p hp ys e => (h2.pda f hf p hp).2 ys e) (by rw [h2.pfs f hf]; exact (hF.f f hf).1) (by rw [h2.pfs f hf]; exact (hF.f f hf).2.2) (by have := (hF.f f hf).2.1; omega) (by omega)
  rw [h2.pfs f hf] at this
  exact this

theorem idx_of (hF : FOK D) {i j : Nat} {f : Fi} (hi : D.files[i]? = some f) (hj : D.files[j]? = some f) : i = j := by
  have h1 : (D.files.map Fi.no)[i]? = some f.no := by rw [List.getElem?_map, hi]; rfl
  have h2 : (D.files.map Fi.no)[j]? = some f.no := by rw [List.getElem?_map, hj]; rfl
  exact (List.getElem?_inj (List.getElem?_eq_some_iff.1 h1).1 hF.d).1 (by rw [h1, h2])

/-- What files tells of a number's file. -/
def conN (D : Dq) (none : Bool) (m : Int) : List Int := if none then safN D m else rowN D m

theorem conN_eq (D : Dq) (none : Bool) {m : Int} {f : Fi} (h : ff m D.files = some f) : conN D none m = (rowC f.safe (f.cs.take (if none then 0 else f.cs.length))).1 := by
  unfold conN safN rowN
  rw [h]
  cases none
  · simp [Fi.row]
  · simp [rowC]

theorem FbO.below {w w' : World} {B : Nat} {v : Value} {l : List (ByteArray × List Int)} {vs : List Value} (h : FbO w B v l vs) (hb : Below w.heap.size w w') : FbO w' B v l vs :=
  ⟨h.n, ownsRow_kept h.r (Kept.ofBelow hb) (fun _ _ e => e), fun i x u hx hu => ownsRow_kept (h.d i x u hx hu) (Kept.ofBelow hb) (fun _ _ e => e)⟩

/-- A file more. -/
theorem FbO.push {W W7 : World} {B k : Nat} {v v' : Value} {l : List (ByteArray × List Int)} {vs : List Value} (h : FbO W B v l vs) (hk : l.length = k) (x1 : ByteArray) (xs : List Int) {v1 : Value} (ho : W.ownsRow B 5 1 v1 xs.length (B8 xs)) (hown : W7.ownsRow B 93 2 v' (k + 1) (((l.zip vs).flatMap fun x => [.string x.1.1, x.2]) ++ [.string x1, v1])) (hk7 : Kept (fun q => v.ownBlock = some q) W W7) : FbO W7 B v' (l ++ [(x1, xs)]) (vs ++ [v1]) := by
  refine ⟨by simp [h.n], ?_, fun i x u hx hu => ?_⟩
  · rw [List.length_append, hk, List.zip_append h.n.symm, List.flatMap_append]
    simpa using hown
  · by_cases hi : i < l.length
    · rw [List.getElem?_append_left hi] at hx
      rw [List.getElem?_append_left (by rw [h.n]; exact hi)] at hu
      exact ownsRow_kept (h.d i x u hx hu) hk7 (fun q e e2 => owns_ne (h.d i x u hx hu) h.r (by decide) q e e2)
    · have hil : i = l.length := by
        have := (List.getElem?_eq_some_iff.1 hx).1
        simp at this
        omega
      subst hil
      rw [List.getElem?_append_right (Nat.le_refl _)] at hx
      rw [List.getElem?_append_right (by rw [h.n]; exact Nat.le_refl _)] at hu
      simp [h.n] at hx hu
      subst hx hu
      exact ownsRow_kept ho hk7 (fun q e e2 => owns_ne ho h.r (by decide) q e e2)

theorem Tryz.info93p : (Tryz.prog.info? 93).map (fun i => (i.zero, i.size, i.bytes)) = some (some (.agg #[.string { data := #[] }, .slice none 0 0]), 2, 40) := by kernel_rfl

set_option maxRecDepth 100000 in
set_option maxHeartbeats 6400000 in
theorem files_r (h : RdT w r R D) (hF : FOK D) (l : List (ByteArray × Int)) (v : Value) (hv : Nl w v l) (hl : l.length ≤ 1000) (nn : Bool) (hff : ∀ x ∈ l, ∃ f, ff x.2 D.files = some f) :
    Calls Tryz.prog 102 #[.pointer (some ⟨r, 0, none⟩), v, .bool nn] w fun e w' => ∃ v' vs, e = .returned v' ∧ FbO w' w.heap.size v' (l.map fun x => (x.1, conN D nn x.2)) vs ∧ Below w.heap.size w w' := by
  obtain ⟨av, cv, rfl, -, -⟩ := hv.shape
  have H := hid (And.intro h (And.intro hv (And.intro hF hff)))
  have hfl := hF.n
  clear h hF hv hff
  go_enter Tryz.func102, Tryz.ntmps102
  go_wp2_with fail
  go_loopw [7, 8] (fun v7 ix wr => ∃ (k : Nat) (a : Option Addr) (c : Nat), k ≤ l.length ∧ v7 = .slice a k c ∧ ix = .int .i64 k ∧ Hid (∃ vs, FbO wr w.heap.size (.slice a k c) ((l.take k).map fun x => (x.1, conN D nn x.2)) vs ∧ Below w.heap.size w wr)) (fun _ ix _ => l.length - (intOf ix).toNat)
  case atStart => exact ⟨0, none, 0, Nat.zero_le _, rfl, rfl, hid ⟨[], ⟨rfl, owns_nil _ _ _ _, fun i x u hx => by simp at hx⟩, Below.refl _ _⟩⟩
  case round =>
    obtain ⟨k, a, c, hk, rfl, rfl, HR⟩ := hrel
    by_cases hlt : k < l.length
    · have i1 : (k : Int) < (l.length : Int) := by omega
      obtain ⟨vs, hfo, hbk⟩ := HR.out
      obtain ⟨bl, ofl, capl, e, -, -, hcell⟩ := Rf.elem (f := ncs) (fun _ => rfl) (by omega) H.out.2.1 k hlt
      injection e with e1 e2 e3
      subst e1 e3
      clear e2
      have htk : (l.take (k + 1)).map (fun x => (x.1, conN D nn x.2)) = (l.take k).map (fun x => (x.1, conN D nn x.2)) ++ [(l[k].1, conN D nn l[k].2)] := by rw [List.take_succ_eq_append_getElem hlt, List.map_append]; rfl
      obtain ⟨f, hf⟩ := H.out.2.2.2 l[k] (List.getElem_mem hlt)
      obtain ⟨x, hx⟩ : ∃ x, x = l[k] := ⟨_, rfl⟩
      rw [← hx] at hcell htk hf
      obtain ⟨x1, x2⟩ := x
      have hmem := (ff_mem hf).1
      obtain ⟨j, hj⟩ := List.mem_iff_getElem?.1 hmem
      have hjl : j < D.files.length := (List.getElem?_eq_some_iff.1 hj).1
      have i2 : (j : Int) < (D.files.length : Int) := by omega
      obtain ⟨b, cl, hlv, hcl, hbr, hbl, hcc⟩ := H.out.1.fcell hfl hj
      obtain ⟨ap, cp2, hpv⟩ := own_shape (H.out.1.pen f hmem)
      obtain ⟨abv, cbv, hbv, -, -⟩ := (H.out.1.saf f hmem).1
      rw [hpv, hbv] at hcc
      have HCC := hid (show ∀ W, Below wr.heap.size wr W → W.cell? ⟨r, 3, none⟩ = some (.slice (some ⟨b, 0, none⟩) D.files.length cl) ∧ W.cell? ⟨bl, ofl + k * 2, none⟩ = some (.string x1) ∧ W.cell? ⟨bl, ofl + k * 2 + 1, none⟩ = some (.int .i64 x2) ∧ W.cell? ⟨b, j * 3, none⟩ = some (.int .i64 f.no) ∧ W.cell? ⟨b, j * 3 + 1, none⟩ = some (.slice abv f.safe.length cbv) ∧ W.cell? ⟨b, j * 3 + 2, none⟩ = some (.slice ap f.cs.length cp2) from fun W hb => by
        have hb2 := bel_on hbk hb
        obtain ⟨a0, a1, a2, a3, -⟩ := hcc W hb2
        have z0 := (show w.cell? ⟨bl, ofl + k * 2, none⟩ = some (.string x1) from hcell 0 _ rfl)
        have z1 := (show w.cell? ⟨bl, ofl + k * 2 + 1, none⟩ = some (.int .i64 x2) from hcell 1 _ rfl)
        exact ⟨a0, (hb2.cell (World.block_lt_of_cell? _ _ z0)).trans z0, (hb2.cell (World.block_lt_of_cell? _ _ z1)).trans z1, a1, a2, a3⟩)
      obtain ⟨c3, z0, z1, y0, y1, y2⟩ := HCC.out wr (Below.refl _ _)
      have HC5 := hid (fun (W : World) (hb : Below wr.heap.size wr W) => And.intro (HCC.out W hb).1 (HCC.out W hb).2.2)
      have hat := fun (W : World) (hb : Below wr.heap.size wr W) => at_r (H.out.1.below (bel_on hbk hb)) hfl x2 f hf
      have HAT := hid hat
      obtain ⟨m0, hm0⟩ : ∃ m0 : Nat, m0 = if nn then 0 else f.cs.length := ⟨_, rfl⟩
      have hm1 : m0 ≤ f.cs.length := by rw [hm0]; split <;> omega
      have hby := H.out.1.byt_f H.out.2.2.1 hmem m0 hm1
      rw [hpv, hbv] at hby
      obtain ⟨bs, hbs⟩ : ∃ bs, bs = (rowC f.safe (f.cs.take m0)).1 := ⟨_, rfl⟩
      have HBY := hid (show ∀ W, Below w.heap.size w W → Calls Tryz.prog 106 #[.agg #[.int .i64 f.no, .slice abv f.safe.length cbv, .slice ap f.cs.length cp2], .int .i64 m0] W fun e w' => ∃ v1 v2, e = .returned (.tuple #[v1, v2]) ∧ w'.ownsRow W.heap.size 5 1 v1 bs.length (B8 bs) ∧ Below W.heap.size W w' from fun W hb => (hby W hb).mono (by
        rintro e w' ⟨v1, v2, rfl, h1, h2⟩
        exact ⟨v1, v2, rfl, by rw [hbs]; exact h1.a, h2⟩))
      have HM0 := hid hm0
      have HCE := hid (show conN D nn x2 = bs by rw [hbs, hm0]; exact conN_eq D nn hf)
      have HJ := hid hj
      have HTK := hid htk
      have HFO := hid (And.intro hfo hbk)
      have hcsn := (H.out.2.2.1.f f hmem).2.1
      have hfz5 : f.peak ≤ 4194304 := (H.out.2.2.1.f f hmem).2.2
      have hbl4 : bs.length ≤ 4194304 := hbs ▸ Nat.le_trans (take_le_peak f.safe f.cs _) hfz5
      clear hcell htk hf hx hcc hlv hpv hbv hat hby hfo hj hmem hfz5 hm0 hbs
      have hbd : Below wr.heap.size wr wr.drew := ⟨rfl, rfl, rfl, Nat.le_refl _, fun _ _ => rfl⟩
      have HBD := hid hbd
      clear hbd hbk
      go_upto_region 5 with fail
      go_region_held3 (fun wx => wx.cell? ⟨r, 3, none⟩ = some (.slice (some ⟨b, 0, none⟩) D.files.length cl) ∧ wx.cell? ⟨bl, ofl + k * 2 + 1, none⟩ = some (.int .i64 x2) ∧ wx.cell? ⟨b, j * 3, none⟩ = some (.int .i64 f.no) ∧ wx.cell? ⟨b, j * 3 + 1, none⟩ = some (.slice abv f.safe.length cbv) ∧ wx.cell? ⟨b, j * 3 + 2, none⟩ = some (.slice ap f.cs.length cp2)) (first | exact HC5.out _ HBD.out | exact HC5.out _ (bel_al _ _) | exact HC5.out _ (bel_al _ _).drew | go_keep) (first
        | (go_at_call 126
           refine (HAT.out _ (by first | exact HBD.out | exact (bel_al _ _).drew)).mono ?_
           rintro e w4 ⟨i', rfl, hi', e4⟩
           rw [e4]
           have hij := idx_of H.out.2.2.1 hi' HJ.out
           rw [hij]
           clear e4 w4 hi' hij i'))
      all_goals
        refine cutG (fun W => Below wr.heap.size wr W ∧ W.heap[wr.heap.size]? = some (.cells #[.int .i64 f.no, .slice abv f.safe.length cbv, .slice ap f.cs.length cp2] 141 (0, 0))) ⟨(bel_al _ _).drew, hp_new wr _⟩ ?_
        rintro W5 ⟨hb5, hblk⟩
        obtain ⟨x0, x1', x2'⟩ := cells3 hblk
        have HB5 := hid (And.intro hb5 (bel_on HFO.out.2 hb5))
        have HBY5 := hid (HBY.out W5 (bel_on HFO.out.2 hb5))
        clear hb5 hblk c3 z0 z1 y0 y1 y2
        cases nn
        · obtain rfl : m0 = f.cs.length := by have h1 := HM0.out; simpa using h1
          go_upto_region 10 with (
            go_at_call 106
            refine HBY5.out.mono ?_
            rintro e w6 ⟨v1, v2, rfl, hby6, hb6⟩
            obtain ⟨a6, cp6, rfl⟩ := own_shape hby6
            have H6 := hid (And.intro hby6 hb6)
            clear hb6 hby6)
          have hb56 := bel_on HB5.out.1 H6.out.2
          obtain ⟨-, z0, -⟩ := HCC.out w6 hb56
          have HP6 := hid (And.intro (HFO.out.1.below hb56) (And.intro (owns_mono H6.out.1 HB5.out.2.size) (bel_on HFO.out.2 hb56)))
          have HZ := hid (show w.heap.size ≤ (w6.alloc (.cells #[.string x1, .slice a6 bs.length cp6] 93)).heap.size by have := HP6.out.2.2.size; simp; omega)
          clear hb56 x0 x1' x2' H6 HBY5
          go_wp2_with (
            at_builtin
            refine wpList_append_rf _ rfl (.tmp 42) (.tmp 50) 75 93 _ 2 40 rfl Tryz.underlying75 Tryz.info93p rfl (by omega) w.heap.size (.slice a k c) k _ rfl (by have h1 := HP6.out.1.r.alloc (.cells #[.string x1, .slice a6 bs.length cp6] 93); rw [List.length_map, List.length_take, Nat.min_eq_left hk] at h1; exact h1) (.slice (some ⟨w6.heap.size, 0, none⟩) 1 1) 1 [.string x1, .slice a6 bs.length cp6] rfl (rf_new w6 93 #[.string x1, .slice a6 bs.length cp6] 2 rfl (by simp; exact ⟨rfl, rfl⟩)) (by omega) (by unfold maxLen; omega) HZ.out ?_
            intro a7 c7 w7 hown hgr hob
            have hk7 : Kept (fun q => (Value.slice a k c).ownBlock = some q) w6 w7 := ((Kept.refl _ w6).alloc _).grown hgr.out (fun _ _ e => e)
            have hr6 := HP6.out.1.r
            rw [List.length_map, List.length_take, Nat.min_eq_left hk] at hr6
            have H7 := hid (show ∃ vs', FbO w7 w.heap.size (.slice a7 (k + 1) c7) ((l.take (k + 1)).map fun x => (x.1, conN D false x.2)) vs' ∧ Below w.heap.size w w7 from ⟨_, by rw [HTK.out, HCE.out]; exact HP6.out.1.push (by rw [List.length_map, List.length_take, Nat.min_eq_left hk]) x1 bs HP6.out.2.1 hown.out hk7, grow_ab HP6.out.2.2 HP6.out.2.2.size hr6 hgr.out⟩)
            clear hown hgr hob hk7 hr6)
          clear z0
          go_roundw
          case rel => first | exact ⟨k + 1, a7, c7, by omega, rfl, by go_num, H7⟩ | ((repeat apply Exists.intro); exact ⟨⟨k + 1, a7, c7, by omega, rfl, by go_num, H7⟩, rfl⟩)
          case measure => simp [intOf]; omega
        · obtain rfl : m0 = 0 := by have h1 := HM0.out; simpa using h1
          replace HBY5 := hid (by have h1 := HBY5.out; rw [show ((0 : Nat) : Int) = 0 from rfl] at h1; exact h1)
          go_upto_region 10 with (
            go_at_call 106
            refine HBY5.out.mono ?_
            rintro e w6 ⟨v1, v2, rfl, hby6, hb6⟩
            obtain ⟨a6, cp6, rfl⟩ := own_shape hby6
            have H6 := hid (And.intro hby6 hb6)
            clear hb6 hby6)
          have hb56 := bel_on HB5.out.1 H6.out.2
          obtain ⟨-, z0, -⟩ := HCC.out w6 hb56
          have HP6 := hid (And.intro (HFO.out.1.below hb56) (And.intro (owns_mono H6.out.1 HB5.out.2.size) (bel_on HFO.out.2 hb56)))
          have HZ := hid (show w.heap.size ≤ (w6.alloc (.cells #[.string x1, .slice a6 bs.length cp6] 93)).heap.size by have := HP6.out.2.2.size; simp; omega)
          clear hb56 x0 x1' x2' H6 HBY5
          go_wp2_with (
            at_builtin
            refine wpList_append_rf _ rfl (.tmp 42) (.tmp 50) 75 93 _ 2 40 rfl Tryz.underlying75 Tryz.info93p rfl (by omega) w.heap.size (.slice a k c) k _ rfl (by have h1 := HP6.out.1.r.alloc (.cells #[.string x1, .slice a6 bs.length cp6] 93); rw [List.length_map, List.length_take, Nat.min_eq_left hk] at h1; exact h1) (.slice (some ⟨w6.heap.size, 0, none⟩) 1 1) 1 [.string x1, .slice a6 bs.length cp6] rfl (rf_new w6 93 #[.string x1, .slice a6 bs.length cp6] 2 rfl (by simp; exact ⟨rfl, rfl⟩)) (by omega) (by unfold maxLen; omega) HZ.out ?_
            intro a7 c7 w7 hown hgr hob
            have hk7 : Kept (fun q => (Value.slice a k c).ownBlock = some q) w6 w7 := ((Kept.refl _ w6).alloc _).grown hgr.out (fun _ _ e => e)
            have hr6 := HP6.out.1.r
            rw [List.length_map, List.length_take, Nat.min_eq_left hk] at hr6
            have H7 := hid (show ∃ vs', FbO w7 w.heap.size (.slice a7 (k + 1) c7) ((l.take (k + 1)).map fun x => (x.1, conN D true x.2)) vs' ∧ Below w.heap.size w w7 from ⟨_, by rw [HTK.out, HCE.out]; exact HP6.out.1.push (by rw [List.length_map, List.length_take, Nat.min_eq_left hk]) x1 bs HP6.out.2.1 hown.out hk7, grow_ab HP6.out.2.2 HP6.out.2.2.size hr6 hgr.out⟩)
            clear hown hgr hob hk7 hr6)
          clear z0
          go_roundw
          case rel => first | exact ⟨k + 1, a7, c7, by omega, rfl, by go_num, H7⟩ | ((repeat apply Exists.intro); exact ⟨⟨k + 1, a7, c7, by omega, rfl, by go_num, H7⟩, rfl⟩)
          case measure => simp [intOf]; omega
    · obtain rfl : l.length = k := by omega
      have HN := hid HR.out
      rw [List.take_of_length_le (Nat.le_refl _)] at HN
      clear HR
      go_wp2
      go_ret
      obtain ⟨vs, h1, h2⟩ := HN.out
      exact ⟨_, vs, rfl, h1, h2⟩

end

end Go.Proofs.YtlmompdfombgeaaGreat
