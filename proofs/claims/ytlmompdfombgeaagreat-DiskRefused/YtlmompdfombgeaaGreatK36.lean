import Derived.Test.YtlmompdfombgeaaGreatK35
namespace Go.Proofs.YtlmompdfombgeaaGreat
open Go.RowKit Go.MapKept

set_option maxRecDepth 100000 in
set_option maxHeartbeats 800000 in
theorem ints_same (a b : Value) (ls : List Int) (w : World) (ha : Ln w a ls) (hb : Ln w b ls) (hl : ls.length ≤ 1000000) :
    Calls Tryz.prog 45 #[a, b] w fun x w' => x = .returned (.bool true) ∧ DN w w' := by
  obtain ⟨ao, acap, rfl, hac, -⟩ := ha.shape
  obtain ⟨bo, bcap, rfl, hbc, -⟩ := hb.shape
  have HA := hid ha
  have HB := hid hb
  clear ha hb
  go_enter Tryz.func45, Tryz.ntmps45
  go_wp2
  go_loopw [5] (fun i wr => ∃ (k : Nat), k ≤ ls.length ∧ i = .int .i64 k ∧ DN w wr) (fun i _ => ls.length - (intOf i).toNat)
  case atStart => exact ⟨0, Nat.zero_le _, rfl, DN.refl w⟩
  case round =>
    obtain ⟨k, hk, rfl, hdn⟩ := hrel
    by_cases hlt : k < ls.length
    · obtain ⟨ab, aoff, cap1, e, -, -, haj⟩ := Rf.elem (m := 1) (f := fun x : Int => [Value.int .i64 x]) (fun _ => rfl) (by omega) HA.out k hlt
      injection e with e1 e2 e3
      subst e1 e3
      clear e2
      obtain ⟨bb, boff, cap2, e, -, -, hbj⟩ := Rf.elem (m := 1) (f := fun x : Int => [Value.int .i64 x]) (fun _ => rfl) (by omega) HB.out k hlt
      injection e with e1 e2 e3
      subst e1 e3
      clear e2
      obtain ⟨x, hx⟩ : ∃ x, x = ls[k] := ⟨_, rfl⟩
      rw [← hx] at haj hbj
      have ca : wr.cell? ⟨ab, aoff + k, none⟩ = some (.int .i64 x) := (hdn.cell _).trans (by have := haj 0 _ rfl; simpa using this)
      have cb : wr.cell? ⟨bb, boff + k, none⟩ = some (.int .i64 x) := (hdn.cell _).trans (by have := hbj 0 _ rfl; simpa using this)
      have i2 : (k : Int) < (ls.length : Int) := by omega
      clear haj hbj hx
      go_wp2
      go_quiet (fail)
      go_wp2
      go_roundw
      case rel => first | exact ⟨k + 1, by omega, by go_num, hdn.more _⟩ | exact ⟨k + 1, by omega, by go_num, hdn⟩ | ((repeat apply Exists.intro); exact ⟨⟨k + 1, by omega, by go_num, hdn.more _⟩, rfl⟩)
      case measure => simp [intOf]; omega
    · have i2 : ¬ (k : Int) < (ls.length : Int) := by omega
      go_wp2
      go_ret
      exact ⟨rfl, hdn⟩

/-- The short list out of the marked one. -/
theorem Qk.ln {w : World} {B : Nat} {q : Qk} (h : q.ok w B) : Ln w (.slice (some ⟨q.g, 0, none⟩) q.lost.length q.cap) q.lost ∧ q.lost.length + 2 ≤ q.cap ∧ w.cell? ⟨q.g, q.lost.length, none⟩ = some (.int .i64 703) ∧ w.cell? ⟨q.g, q.lost.length + 1, none⟩ = some (.int .i64 704) := by
  have hm : q.cap ≤ maxLen ∧ q.lost.length + 2 ≤ q.cap := by
    rcases h.2 with ⟨h, _⟩ | ⟨_, _, _, h, _, _, hc, hm, _⟩
    · cases h
    · injection h with _ _ h; rw [h]; exact ⟨hm, hc⟩
  have hlen : (ics q.lost).length = q.lost.length := by simpa [ics] using flat_len (fun x : Int => [Value.int .i64 x]) 1 (fun _ => rfl) q.lost
  refine ⟨⟨by simpa [ics] using hlen, ?_, .inr ⟨_, q.cap, rfl, by omega, hm.1, fun j u hu => ?_⟩⟩, hm.2, ?_, ?_⟩
  · intro u hu
    obtain ⟨y, _, hy⟩ := List.mem_flatMap.1 hu
    simp at hy
    subst hy
    rfl
  · have hj : j < (ics q.lost).length := by
      rcases Nat.lt_or_ge j (ics q.lost).length with h | h
      · exact h
      · have : (ics q.lost)[j]? = some u := hu
        rw [List.getElem?_eq_none h] at this; cases this
    exact h.cells (g := q.g) rfl j u (by rw [List.getElem?_append_left hj]; exact hu)
  · have := h.cells (g := q.g) rfl q.lost.length (.int .i64 703) (by rw [List.getElem?_append_right (by omega), hlen]; simp)
    rwa [add_lit, Nat.zero_add] at this
  · have := h.cells (g := q.g) rfl (q.lost.length + 1) (.int .i64 704) (by rw [List.getElem?_append_right (by omega), hlen]; simp)
    rwa [add_lit, Nat.zero_add] at this

set_option maxRecDepth 100000 in
set_option maxHeartbeats 3200000 in
theorem unpicked_any (B g cap : Nat) (pn : Int) (fv : Value) (ps : List Pk) (qs : List Qk) (w : World) (hq : Qks w B g cap ps qs) (h : Pks w fv ps) (hl : ps.length ≤ 300) (hl2 : ∀ p ∈ ps, p.lost.length ≤ 300) :
    Calls Tryz.prog 66 #[.agg #[.int .i64 pn, .slice (some ⟨g, 0, none⟩) ps.length cap], .agg #[.int .i64 pn, fv]] w fun x w' => x = .returned (.bool true) ∧ Below w.heap.size w w' := by
  obtain ⟨ao, cp, rfl, hc1, hc2⟩ := h.1.shape
  have hcap : ps.length + 1 ≤ cap := by
    rcases hq.row.2 with ⟨h, _⟩ | ⟨_, _, _, h, _, _, hc, _⟩
    · cases h
    · injection h with _ _ h; omega
  have sl := slice39 ⟨g, 0, none⟩ ps.length (ps.length + 1) cap hcap
  rw [show (((ps.length + 1 : Nat)) : Int) = (ps.length : Int) + 1 by omega] at sl
  have hflat := flat_len qcs 2 (fun _ => rfl) qs
  have m0 : w.cell? ⟨g, ps.length * 2, none⟩ = some (.int .i64 705) := by
    have := hq.row.cells (g := g) rfl (ps.length * 2) (.int .i64 705) (by rw [List.getElem?_append_right (by rw [hflat, hq.len]; omega), hflat, hq.len]; simp)
    rwa [add_lit, Nat.zero_add] at this
  have hgl : g < w.heap.size := World.block_lt_of_cell? _ _ m0
  have HQ := hid hq
  have HP := hid h
  have HL2 := hid hl2
  clear hq h hl2 hflat
  have hb0 : Below w.heap.size w ((w.alloc (.cells #[.int .i64 pn, .slice (some ⟨g, 0, none⟩) ps.length cap] 41)).alloc (.cells #[.int .i64 pn, .slice ao ps.length cp] 41)) := ((Below.refl _ _).alloc (Nat.le_refl _) _).alloc (by simp) _
  have hp0 : ((w.alloc (.cells #[.int .i64 pn, .slice (some ⟨g, 0, none⟩) ps.length cap] 41)).alloc (.cells #[.int .i64 pn, .slice ao ps.length cp] 41)).cell? ⟨w.heap.size, 1, none⟩ = some (.slice (some ⟨g, 0, none⟩) ps.length cap) := by simp [go_sem]
  have hp1 : ((w.alloc (.cells #[.int .i64 pn, .slice (some ⟨g, 0, none⟩) ps.length cap] 41)).alloc (.cells #[.int .i64 pn, .slice ao ps.length cp] 41)).cell? ⟨w.heap.size + 1, 1, none⟩ = some (.slice ao ps.length cp) := by simp [go_sem]
  have H0 := hid (And.intro hb0 (And.intro hp0 hp1))
  clear hb0 hp0 hp1
  go_enter Tryz.func66, Tryz.ntmps66
  go_wp2
  go_loopw [6] (fun i wr => ∃ (k : Nat), k ≤ ps.length ∧ i = .int .i64 k ∧ Hid (DN ((w.alloc (.cells #[.int .i64 pn, .slice (some ⟨g, 0, none⟩) ps.length cap] 41)).alloc (.cells #[.int .i64 pn, .slice ao ps.length cp] 41)) wr)) (fun i _ => ps.length - (intOf i).toNat)
  case atStart => exact ⟨0, Nat.zero_le _, by go_num, hid (DN.refl _)⟩
  case round =>
    obtain ⟨k, hk, rfl, HD⟩ := hrel
    by_cases hlt : k < ps.length
    · have hdn := HD.out
      obtain ⟨hb0, hp0, hp1⟩ := H0.out
      have hW : ∀ a v, w.cell? a = some v → wr.cell? a = some v := fun a v h => (hdn.cell a).trans ((hb0.cell (World.block_lt_of_cell? _ _ h)).trans h)
      obtain ⟨b, off, cap', e, -, -, hcell⟩ := Rf.elem (f := pcs) (fun _ => rfl) (by omega) HP.out.1 k hlt
      injection e with e1 e2 e3
      subst e1 e3
      clear e2
      have a1 := (hdn.cell _).trans hp0
      have b1 := (hdn.cell _).trans hp1
      have hkq : k < qs.length := by rw [HQ.out.len]; exact hlt
      have hsame := HQ.out.same k qs[k] ps[k] (by simp [hkq]) (by simp [hlt])
      have hqok := HQ.out.ok qs[k] (List.getElem_mem hkq)
      obtain ⟨x, hxe⟩ : ∃ x, x = ps[k] := ⟨_, rfl⟩
      obtain ⟨q, hqe⟩ : ∃ q, q = qs[k] := ⟨_, rfl⟩
      have hmem := List.getElem_mem hlt
      rw [← hxe] at hcell hmem hsame
      rw [← hqe] at hsame hqok
      have z0 := HQ.out.row.cells (g := g) rfl (k * 2) (.int .i64 q.done) (by rw [List.getElem?_append_left (by rw [flat_len qcs 2 (fun _ => rfl)]; omega), ← Nat.add_zero (k * 2), flat_get qcs 2 (fun _ => rfl) _ _ _ (by omega)]; simp [hkq, ← hqe, qcs])
      have z1 := HQ.out.row.cells (g := g) rfl (k * 2 + 1) (.slice (some ⟨q.g, 0, none⟩) q.lost.length q.cap) (by rw [List.getElem?_append_left (by rw [flat_len qcs 2 (fun _ => rfl)]; omega), flat_get qcs 2 (fun _ => rfl) _ _ _ (by omega)]; simp [hkq, ← hqe, qcs])
      rw [add_lit, Nat.zero_add] at z0 z1
      have hpok := HP.out.2 x hmem
      have hlost := HL2.out x hmem
      obtain ⟨hln2, hcp2, k3, k4⟩ := Qk.ln hqok
      obtain ⟨dn, lv, lost⟩ := x
      obtain ⟨qd, qg, qc, ql⟩ := q
      obtain ⟨s1, s2⟩ := hsame
      dsimp only at s1 s2 z0 z1 hln2 hcp2 k3 k4
      subst s1 s2
      obtain ⟨-, hln, -, -⟩ := hpok
      obtain ⟨a5, q5, e5, d9, d10⟩ := hln.shape
      dsimp only at e5 hlost d9 d10
      subst e5
      have y0 : w.cell? ⟨b, off + k * 2, none⟩ = some (.int .i64 qd) := hcell 0 _ rfl
      have y1 : w.cell? ⟨b, off + k * 2 + 1, none⟩ = some (.slice a5 ql.length q5) := hcell 1 _ rfl
      have x0 := hW _ _ y0
      have x1 := hW _ _ y1
      have u0 := hW _ _ z0
      have u1 := hW _ _ z1
      have t3 := hW _ _ k3
      have t4 := hW _ _ k4
      have sq := slice64 ⟨qg, 0, none⟩ ql.length (ql.length + 2) qc hcp2
      rw [show (((ql.length + 2 : Nat)) : Int) = (ql.length : Int) + 2 by omega] at sq
      have i2 : (k : Int) < (ps.length : Int) := by omega
      have hL1 : ∀ n, Ln (wr.drewN n) (.slice (some ⟨qg, 0, none⟩) ql.length qc) ql := fun n => (by
        obtain ⟨m, rfl⟩ := hdn
        exact hln2.below (below_drewN (below_drewN hb0 m) n))
      have hL2 : ∀ n, Ln (wr.drewN n) (.slice a5 ql.length q5) ql := fun n => (by
        obtain ⟨m, rfl⟩ := hdn
        exact hln.below (below_drewN (below_drewN hb0 m) n))
      have HL := hid (And.intro hL1 hL2)
      clear hcell hmem hln hln2 y0 y1 hxe hqe hW hdn hb0 hp0 hp1 hkq hqok z0 z1 k3 k4 hL1 hL2
      have hcall : ∀ n, Calls Tryz.prog 45 #[.slice (some ⟨qg, 0, none⟩) ql.length qc, .slice a5 ql.length q5] (wr.drewN n) fun e w' => e = .returned (.bool true) ∧ ∃ m, w' = (wr.drewN n).drewN m := fun n => ints_same _ _ ql (wr.drewN n) (HL.out.1 n) (HL.out.2 n) (by omega)
      have HC := hid hcall
      clear hcall
      go_wp2_with fail
      go_quiet ((go_at_call 45; exact Calls.quiet_of (HC.out _)))
      go_wp2
      go_roundw
      case rel => exact ⟨k + 1, by omega, by go_num, hid (HD.out.more _)⟩
      case measure => simp [intOf]; omega
    · have i2 : ¬ (k : Int) < (ps.length : Int) := by omega
      go_wp2
      go_ret
      obtain ⟨m, rfl⟩ := HD.out
      exact ⟨rfl, below_drewN H0.out.1 m⟩

end Go.Proofs.YtlmompdfombgeaaGreat

namespace Go.Proofs.YtlmompdfombgeaaGreat
open Go.RowKit Go.MapKept

theorem ln_of_owns {w : World} {B n : Nat} {v : Value} {ps : List Int} (h : w.ownsRow B 3 1 v n (ps.map (Value.int .i64))) : Ln w v ps := by
  have hl : ps.length = n := by have := h.1; simp at this; omega
  have := rf_of_owns h (fun u hu => by
    obtain ⟨y, _, rfl⟩ := List.mem_map.1 hu
    rfl)
  unfold Ln
  rw [flat_i64, hl]
  exact this

/-- What same is handed. -/
structure Tl (w : World) (l1 l2 : List (ByteArray × List Int)) (ps : List Int) (v1 v2 v3 : Value) : Prop where
  a : ∃ B, FbAt w B v1 l1
  b : ∃ B, FbAt w B v2 l2
  c : Ln w v3 ps

theorem Tl.below {w w' : World} {l1 l2 : List (ByteArray × List Int)} {ps : List Int} {v1 v2 v3 : Value} (h : Tl w l1 l2 ps v1 v2 v3) (hb : Below w.heap.size w w') : Tl w' l1 l2 ps v1 v2 v3 := by
  obtain ⟨⟨B, h1⟩, ⟨B2, h2⟩, h3⟩ := h
  exact ⟨⟨B, h1.below hb⟩, ⟨B2, h2.below hb⟩, Rf.below h3 hb⟩

set_option maxRecDepth 100000 in
set_option maxHeartbeats 3200000 in
theorem same_yes {w : World} {l1 l2 : List (ByteArray × List Int)} {ps : List Int} {a1 a2 a3 a1' a2' a3' : Option Addr} {n1 n2 n3 k1 k2 k3 k1' k2' k3' : Nat} (tn hb hc : Int) (o : Bool)
    (h : Tl w l1 l2 ps (.slice a1 n1 k1) (.slice a2 n2 k2) (.slice a3 n3 k3)) (h' : Tl w l1 l2 ps (.slice a1' n1 k1') (.slice a2' n2 k2') (.slice a3' n3 k3')) (s1 : l1.length ≤ 1000) (s2 : l2.length ≤ 1000) (s3 : ps.length ≤ 1000) (z1 : szF l1 ≤ 100000000) (z2 : szF l2 ≤ 100000000) :
    Calls Tryz.prog 40 #[.agg #[.slice a1 n1 k1, .slice a2 n2 k2, .int .i64 tn, .slice a3 n3 k3, .int .i64 hb, .int .i64 hc, .bool o], .agg #[.slice a1' n1 k1', .slice a2' n2 k2', .int .i64 tn, .slice a3' n3 k3', .int .i64 hb, .int .i64 hc, .bool o]] w fun x w' => x = .returned (.bool true) ∧ Below w.heap.size w w' := by
  have hb0 : Below w.heap.size w ((w.alloc (.cells #[.slice a1 n1 k1, .slice a2 n2 k2, .int .i64 tn, .slice a3 n3 k3, .int .i64 hb, .int .i64 hc, .bool o] 81)).alloc (.cells #[.slice a1' n1 k1', .slice a2' n2 k2', .int .i64 tn, .slice a3' n3 k3', .int .i64 hb, .int .i64 hc, .bool o] 81)) := ((Below.refl _ _).alloc (Nat.le_refl _) _).alloc (by simp) _
  have hr0 : ((w.alloc (.cells #[.slice a1 n1 k1, .slice a2 n2 k2, .int .i64 tn, .slice a3 n3 k3, .int .i64 hb, .int .i64 hc, .bool o] 81)).alloc (.cells #[.slice a1' n1 k1', .slice a2' n2 k2', .int .i64 tn, .slice a3' n3 k3', .int .i64 hb, .int .i64 hc, .bool o] 81)).heap[w.heap.size]? = some (.cells #[.slice a1 n1 k1, .slice a2 n2 k2, .int .i64 tn, .slice a3 n3 k3, .int .i64 hb, .int .i64 hc, .bool o] 81 (0, 0)) := hp_alloc (hp_new _ _) _
  have hr1 : ((w.alloc (.cells #[.slice a1 n1 k1, .slice a2 n2 k2, .int .i64 tn, .slice a3 n3 k3, .int .i64 hb, .int .i64 hc, .bool o] 81)).alloc (.cells #[.slice a1' n1 k1', .slice a2' n2 k2', .int .i64 tn, .slice a3' n3 k3', .int .i64 hb, .int .i64 hc, .bool o] 81)).heap[w.heap.size + 1]? = some (.cells #[.slice a1' n1 k1', .slice a2' n2 k2', .int .i64 tn, .slice a3' n3 k3', .int .i64 hb, .int .i64 hc, .bool o] 81 (0, 0)) := by
    have := hp_new (w.alloc (.cells #[.slice a1 n1 k1, .slice a2 n2 k2, .int .i64 tn, .slice a3 n3 k3, .int .i64 hb, .int .i64 hc, .bool o] 81)) (.cells #[.slice a1' n1 k1', .slice a2' n2 k2', .int .i64 tn, .slice a3' n3 k3', .int .i64 hb, .int .i64 hc, .bool o] 81)
    simpa using this
  have HC := hid (show ∀ W, Below w.heap.size w W → W.heap[w.heap.size]? = some (.cells #[.slice a1 n1 k1, .slice a2 n2 k2, .int .i64 tn, .slice a3 n3 k3, .int .i64 hb, .int .i64 hc, .bool o] 81 (0, 0)) → W.heap[w.heap.size + 1]? = some (.cells #[.slice a1' n1 k1', .slice a2' n2 k2', .int .i64 tn, .slice a3' n3 k3', .int .i64 hb, .int .i64 hc, .bool o] 81 (0, 0)) →
      Calls Tryz.prog 39 #[.slice a1 n1 k1, .slice a1' n1 k1'] W (fun x w' => x = .returned (.bool true) ∧ Below W.heap.size W w') ∧ Calls Tryz.prog 39 #[.slice a2 n2 k2, .slice a2' n2 k2'] W (fun x w' => x = .returned (.bool true) ∧ Below W.heap.size W w') ∧ Calls Tryz.prog 45 #[.slice a3 n3 k3, .slice a3' n3 k3'] W (fun x w' => x = .returned (.bool true) ∧ Below W.heap.size W w') from fun W hbW _ _ => by
    have dn : ∀ w', DN W w' → Below W.heap.size W w' := fun w' h => by
      obtain ⟨q, rfl⟩ := h
      exact below_drewN (Below.refl _ _) q
    obtain ⟨⟨B1, x1⟩, ⟨B2, x2⟩, x3⟩ := h.below hbW
    obtain ⟨⟨B3, y1⟩, ⟨B4, y2⟩, y3⟩ := h'.below hbW
    refine ⟨(files_same x1 y1 (by omega) z1).mono ?_, (files_same x2 y2 (by omega) z2).mono ?_, (ints_same _ _ ps W x3 y3 (by omega)).mono ?_⟩
    all_goals
      rintro e w' ⟨rfl, hd⟩
      exact ⟨rfl, dn w' hd⟩)
  have HB := hid (And.intro hb0 (And.intro hr0 hr1))
  clear h h' hb0 hr0 hr1
  go_enter Tryz.func40, Tryz.ntmps40
  go_wp2_with (first
    | (go_at_call 39
       (with_reducible show Calls _ _ #[.slice a1 n1 k1, .slice a1' n1 k1'] _ _)
       refine (HC.out _ HB.out.1 HB.out.2.1 HB.out.2.2).1.mono ?_
       rintro e w1 ⟨rfl, hb1⟩
       have hr0 := hp_below HB.out.2.1 hb1 (hp_lt HB.out.2.1)
       have hr1 := hp_below HB.out.2.2 hb1 (hp_lt HB.out.2.2)
       obtain ⟨x0, x1, x2, x3, x4, x5, x6⟩ := cells7 hr0
       obtain ⟨y0, y1, y2, y3, y4, y5, y6⟩ := cells7 hr1
       have H1 := hid (And.intro (HB.out.1.trans (hb1.mono HB.out.1.size)) (And.intro hr0 hr1))
       clear hb1 hr0 hr1)
    | (go_at_call 39
       (with_reducible show Calls _ _ #[.slice a2 n2 k2, .slice a2' n2 k2'] _ _)
       refine (HC.out _ H1.out.1 H1.out.2.1 H1.out.2.2).2.1.mono ?_
       rintro e w2 ⟨rfl, hb2⟩
       clear x0 x1 x2 x3 x4 x5 x6 y0 y1 y2 y3 y4 y5 y6
       have hr0 := hp_below H1.out.2.1 hb2 (hp_lt H1.out.2.1)
       have hr1 := hp_below H1.out.2.2 hb2 (hp_lt H1.out.2.2)
       obtain ⟨x0, x1, x2, x3, x4, x5, x6⟩ := cells7 hr0
       obtain ⟨y0, y1, y2, y3, y4, y5, y6⟩ := cells7 hr1
       have H2 := hid (And.intro (H1.out.1.trans (hb2.mono H1.out.1.size)) (And.intro hr0 hr1))
       clear hb2 hr0 hr1)
    | (go_at_call 45
       refine (HC.out _ H2.out.1 H2.out.2.1 H2.out.2.2).2.2.mono ?_
       rintro e w3 ⟨rfl, hb3⟩
       clear x0 x1 x2 x3 x4 x5 x6 y0 y1 y2 y3 y4 y5 y6
       have hr0 := hp_below H2.out.2.1 hb3 (hp_lt H2.out.2.1)
       have hr1 := hp_below H2.out.2.2 hb3 (hp_lt H2.out.2.2)
       obtain ⟨x0, x1, x2, x3, x4, x5, x6⟩ := cells7 hr0
       obtain ⟨y0, y1, y2, y3, y4, y5, y6⟩ := cells7 hr1
       have H3 := hid (H2.out.1.trans (hb3.mono H2.out.1.size))
       clear hb3 hr0 hr1))
  go_ret
  exact ⟨by simp, H3.out⟩

end Go.Proofs.YtlmompdfombgeaaGreat
