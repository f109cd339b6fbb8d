import Derived.Test.YthcoigbkdbkojabGreatK30
import Derived.Test.YthcoigbkdbkojabGreatK31
set_option maxRecDepth 100000
namespace Go.Proofs.YthcoigbkdbkojabGreat
open Go.RowKit Go.MapKept
open V (hp_new hp_lt hp_below hp_alloc kl)
theorem neq28 (a b : Int) (c : ByteArray) (a' b' : Int) (c' : ByteArray) (e1 : a = a') (e2 : b = b') (e3 : c = c') (w : World) : (binOp BinOp.neq 29 (.agg #[.int .i64 a, .int .i64 b, .string c]) (.agg #[.int .i64 a', .int .i64 b', .string c'])).run Tryz.prog w = .ok (.bool false) w := by
  subst e1 e2 e3
  simp [go_sem]
theorem neq54 (k : ByteArray) (a b : Int) (c : ByteArray) (k' : ByteArray) (a' b' : Int) (c' : ByteArray) (e0 : k = k') (e1 : a = a') (e2 : b = b') (e3 : c = c') (w : World) : (binOp BinOp.neq 45 (.agg #[.string k, .int .i64 a, .int .i64 b, .string c]) (.agg #[.string k', .int .i64 a', .int .i64 b', .string c'])).run Tryz.prog w = .ok (.bool false) w := by
  subst e0 e1 e2 e3
  simp [go_sem]
theorem neq61 (k c k' c' : ByteArray) (e0 : k = k') (e3 : c = c') (w : World) : (binOp BinOp.neq 55 (.agg #[.string k, .string c]) (.agg #[.string k', .string c'])).run Tryz.prog w = .ok (.bool false) w := by
  subst e0 e3
  simp [go_sem]
set_option maxHeartbeats 3200000 in
theorem same38_any (v v' : Value) (xs : List Vd) (w : World) (hl : xs.length ≤ 1000) (h : Rf w 3 v xs.length (xs.flatMap vcs)) (h' : Rf w 3 v' xs.length (xs.flatMap vcs)) :
    Calls Tryz.prog 33 #[v, v'] w fun e w' => e = .returned (.bool true) ∧ Below w.heap.size w w' := by
  obtain ⟨ao, ca, rfl, hca, -⟩ := h.shape
  obtain ⟨bo, cb, rfl, hcb, -⟩ := h'.shape
  have H := hid (And.intro h h')
  clear h h'
  go_enter Tryz.func33, Tryz.ntmps33
  go_wp2_with fail
  go_loopw [5] (fun ix wr => ∃ k : Nat, k ≤ xs.length ∧ ix = .int .i64 k ∧ Hid (Below w.heap.size w wr)) (fun ix _ => xs.length - (intOf ix).toNat)
  case atStart => exact ⟨0, Nat.zero_le _, by go_num, hid (Below.refl _ _)⟩
  case round =>
    obtain ⟨k, hk, rfl, HR⟩ := hrel
    by_cases hlt : k < xs.length
    · have i1 : (k : Int) < (xs.length : Int) := by omega
      have i2 : k < 1000 := by omega
      obtain ⟨b, off, cap, e, -, -, hc⟩ := Rf.elem (f := vcs) (fun _ => rfl) (by omega) (H.out.1.below HR.out) k hlt
      injection e with e1 _ e3
      subst e1 e3
      obtain ⟨b', off', cap', e, -, -, hc'⟩ := Rf.elem (f := vcs) (fun _ => rfl) (by omega) (H.out.2.below HR.out) k hlt
      injection e with e1 _ e3
      subst e1 e3
      obtain ⟨x, hx⟩ : ∃ x, x = xs[k] := ⟨_, rfl⟩
      obtain ⟨x', hx'⟩ : ∃ x', x' = xs[k] := ⟨_, rfl⟩
      rw [← hx] at hc
      rw [← hx'] at hc'
      have e := hx.trans hx'.symm
      clear hx hx'
      obtain ⟨vk, vi, vt⟩ := x
      obtain ⟨vk', vi', vt'⟩ := x'
      have c0 : wr.cell? ⟨b, off + k * 3, none⟩ = some (.int .i64 vk) := hc 0 _ rfl
      have c1 : wr.cell? ⟨b, off + k * 3 + 1, none⟩ = some (.int .i64 vi) := hc 1 _ rfl
      have c2 : wr.cell? ⟨b, off + k * 3 + 2, none⟩ = some (.string vt) := hc 2 _ rfl
      have d0 : wr.cell? ⟨b', off' + k * 3, none⟩ = some (.int .i64 vk') := hc' 0 _ rfl
      have d1 : wr.cell? ⟨b', off' + k * 3 + 1, none⟩ = some (.int .i64 vi') := hc' 1 _ rfl
      have d2 : wr.cell? ⟨b', off' + k * 3 + 2, none⟩ = some (.string vt') := hc' 2 _ rfl
      have hne := neq28 vk vi vt vk' vi' vt' (congrArg Vd.k e) (congrArg Vd.i e) (congrArg Vd.t e)
      have hb1 := World.block_lt_of_cell? _ _ c0
      have hb2 := World.block_lt_of_cell? _ _ d0
      dsimp only at hb1 hb2
      clear hc hc' e hk
      have HK := hid hlt
      go_upto_region 6 with fail
      go_region
      all_goals
        go_wp2_with fail
        go_roundw
        case rel => exact ⟨k + 1, by omega, by go_num, hid HR.out.drew⟩
        case measure => simp [intOf]; omega
    · obtain rfl : xs.length = k := by omega
      have i1 : ¬ (xs.length : Int) < (xs.length : Int) := by omega
      go_wp2_with fail
      go_ret
      exact ⟨rfl, HR.out⟩
set_option maxHeartbeats 3200000 in
theorem same36_any (v v' : Value) (xs : List (ByteArray × Vd)) (w : World) (hl : xs.length ≤ 1000) (h : Rf w 4 v xs.length (xs.flatMap ecs)) (h' : Rf w 4 v' xs.length (xs.flatMap ecs)) :
    Calls Tryz.prog 14 #[v, v'] w fun e w' => e = .returned (.bool true) ∧ Below w.heap.size w w' := by
  obtain ⟨ao, ca, rfl, hca, -⟩ := h.shape
  obtain ⟨bo, cb, rfl, hcb, -⟩ := h'.shape
  have H := hid (And.intro h h')
  clear h h'
  go_enter Tryz.func14, Tryz.ntmps14
  go_wp2_with fail
  go_loopw [5] (fun ix wr => ∃ k : Nat, k ≤ xs.length ∧ ix = .int .i64 k ∧ Hid (Below w.heap.size w wr)) (fun ix _ => xs.length - (intOf ix).toNat)
  case atStart => exact ⟨0, Nat.zero_le _, by go_num, hid (Below.refl _ _)⟩
  case round =>
    obtain ⟨k, hk, rfl, HR⟩ := hrel
    by_cases hlt : k < xs.length
    · have i1 : (k : Int) < (xs.length : Int) := by omega
      have i2 : k < 1000 := by omega
      obtain ⟨b, off, cap, e, -, -, hc⟩ := Rf.elem (f := ecs) (fun _ => rfl) (by omega) (H.out.1.below HR.out) k hlt
      injection e with e1 _ e3
      subst e1 e3
      obtain ⟨b', off', cap', e, -, -, hc'⟩ := Rf.elem (f := ecs) (fun _ => rfl) (by omega) (H.out.2.below HR.out) k hlt
      injection e with e1 _ e3
      subst e1 e3
      obtain ⟨x, hx⟩ : ∃ x, x = xs[k] := ⟨_, rfl⟩
      obtain ⟨x', hx'⟩ : ∃ x', x' = xs[k] := ⟨_, rfl⟩
      rw [← hx] at hc
      rw [← hx'] at hc'
      have e := hx.trans hx'.symm
      clear hx hx'
      obtain ⟨ek, vk, vi, vt⟩ := x
      obtain ⟨ek', vk', vi', vt'⟩ := x'
      have c0 : wr.cell? ⟨b, off + k * 4, none⟩ = some (.string ek) := hc 0 _ rfl
      have c1 : wr.cell? ⟨b, off + k * 4 + 1, none⟩ = some (.int .i64 vk) := hc 1 _ rfl
      have c2 : wr.cell? ⟨b, off + k * 4 + 2, none⟩ = some (.int .i64 vi) := hc 2 _ rfl
      have c3 : wr.cell? ⟨b, off + k * 4 + 3, none⟩ = some (.string vt) := hc 3 _ rfl
      have d0 : wr.cell? ⟨b', off' + k * 4, none⟩ = some (.string ek') := hc' 0 _ rfl
      have d1 : wr.cell? ⟨b', off' + k * 4 + 1, none⟩ = some (.int .i64 vk') := hc' 1 _ rfl
      have d2 : wr.cell? ⟨b', off' + k * 4 + 2, none⟩ = some (.int .i64 vi') := hc' 2 _ rfl
      have d3 : wr.cell? ⟨b', off' + k * 4 + 3, none⟩ = some (.string vt') := hc' 3 _ rfl
      have hne := neq54 ek vk vi vt ek' vk' vi' vt' (congrArg Prod.fst e) (congrArg (fun x => x.2.k) e) (congrArg (fun x => x.2.i) e) (congrArg (fun x => x.2.t) e)
      have hb1 := World.block_lt_of_cell? _ _ c0
      have hb2 := World.block_lt_of_cell? _ _ d0
      dsimp only at hb1 hb2
      clear hc hc' e hk
      have HK := hid hlt
      go_upto_region 6 with fail
      go_region
      all_goals
        go_wp2_with fail
        go_roundw
        case rel => exact ⟨k + 1, by omega, by go_num, hid HR.out.drew⟩
        case measure => simp [intOf]; omega
    · obtain rfl : xs.length = k := by omega
      have i1 : ¬ (xs.length : Int) < (xs.length : Int) := by omega
      go_wp2_with fail
      go_ret
      exact ⟨rfl, HR.out⟩
set_option maxHeartbeats 3200000 in
theorem same37_any (v v' : Value) (xs : List (ByteArray × ByteArray)) (w : World) (hl : xs.length ≤ 1000) (h : Rf w 2 v xs.length (xs.flatMap lcs)) (h' : Rf w 2 v' xs.length (xs.flatMap lcs)) :
    Calls Tryz.prog 28 #[v, v'] w fun e w' => e = .returned (.bool true) ∧ Below w.heap.size w w' := by
  obtain ⟨ao, ca, rfl, hca, -⟩ := h.shape
  obtain ⟨bo, cb, rfl, hcb, -⟩ := h'.shape
  have H := hid (And.intro h h')
  clear h h'
  go_enter Tryz.func28, Tryz.ntmps28
  go_wp2_with fail
  go_loopw [5] (fun ix wr => ∃ k : Nat, k ≤ xs.length ∧ ix = .int .i64 k ∧ Hid (Below w.heap.size w wr)) (fun ix _ => xs.length - (intOf ix).toNat)
  case atStart => exact ⟨0, Nat.zero_le _, by go_num, hid (Below.refl _ _)⟩
  case round =>
    obtain ⟨k, hk, rfl, HR⟩ := hrel
    by_cases hlt : k < xs.length
    · have i1 : (k : Int) < (xs.length : Int) := by omega
      have i2 : k < 1000 := by omega
      obtain ⟨b, off, cap, e, -, -, hc⟩ := Rf.elem (f := lcs) (fun _ => rfl) (by omega) (H.out.1.below HR.out) k hlt
      injection e with e1 _ e3
      subst e1 e3
      obtain ⟨b', off', cap', e, -, -, hc'⟩ := Rf.elem (f := lcs) (fun _ => rfl) (by omega) (H.out.2.below HR.out) k hlt
      injection e with e1 _ e3
      subst e1 e3
      obtain ⟨x, hx⟩ : ∃ x, x = xs[k] := ⟨_, rfl⟩
      obtain ⟨x', hx'⟩ : ∃ x', x' = xs[k] := ⟨_, rfl⟩
      rw [← hx] at hc
      rw [← hx'] at hc'
      have e := hx.trans hx'.symm
      clear hx hx'
      obtain ⟨f, t⟩ := x
      obtain ⟨f', t'⟩ := x'
      have c0 : wr.cell? ⟨b, off + k * 2, none⟩ = some (.string f) := hc 0 _ rfl
      have c1 : wr.cell? ⟨b, off + k * 2 + 1, none⟩ = some (.string t) := hc 1 _ rfl
      have d0 : wr.cell? ⟨b', off' + k * 2, none⟩ = some (.string f') := hc' 0 _ rfl
      have d1 : wr.cell? ⟨b', off' + k * 2 + 1, none⟩ = some (.string t') := hc' 1 _ rfl
      have hne := neq61 f t f' t' (congrArg Prod.fst e) (congrArg Prod.snd e)
      have hb1 := World.block_lt_of_cell? _ _ c0
      have hb2 := World.block_lt_of_cell? _ _ d0
      dsimp only at hb1 hb2
      clear hc hc' e hk
      have HK := hid hlt
      go_upto_region 6 with fail
      go_region
      all_goals
        go_wp2_with fail
        go_roundw
        case rel => exact ⟨k + 1, by omega, by go_num, hid HR.out.drew⟩
        case measure => simp [intOf]; omega
    · obtain rfl : xs.length = k := by omega
      have i1 : ¬ (xs.length : Int) < (xs.length : Int) := by omega
      go_wp2_with fail
      go_ret
      exact ⟨rfl, HR.out⟩
theorem ended_any (st at_ : Int) (v v' : Value) (xs : List Vd) (w : World) (hl : xs.length ≤ 1000) (h : Rf w 3 v xs.length (xs.flatMap vcs)) (h' : Rf w 3 v' xs.length (xs.flatMap vcs)) :
    Calls Tryz.prog 27 #[.agg #[.int .i64 st, .int .i64 at_, v], .agg #[.int .i64 st, .int .i64 at_, v']] w fun e w' => e = .returned (.bool true) ∧ Below w.heap.size w w' := by
  obtain ⟨ao, ca, rfl, -, -⟩ := h.shape
  obtain ⟨bo, cb, rfl, -, -⟩ := h'.shape
  have hb := below2 w (.cells #[.int .i64 st, .int .i64 at_, .slice ao xs.length ca] 37) (.cells #[.int .i64 st, .int .i64 at_, .slice bo xs.length cb] 37)
  have HB := hid hb
  have HS := hid (same38_any (.slice ao xs.length ca) (.slice bo xs.length cb) xs _ hl (h.below hb) (h'.below hb))
  have es : (st == st) = true := by simp
  have ea : (at_ == at_) = true := by simp
  clear h h' hb hl
  go_enter Tryz.func27, Tryz.ntmps27
  go_wp2_with (
    go_at_call 33
    refine HS.out.mono ?_
    rintro e w2 ⟨rfl, hb2⟩
    have H2 := hid (below_on HB.out hb2)
    clear hb2)
  go_ret
  exact ⟨rfl, H2.out⟩
theorem same_any (st at_ : Int) (t1 t2 t3 u1 u2 u3 : Option Addr) (k1 k2 k3 j1 j2 j3 : Nat) (td : List Vd) (wl : List (ByteArray × Vd)) (lk : List (ByteArray × ByteArray)) (w : World) (n1 : td.length ≤ 64) (n2 : wl.length ≤ 64) (n3 : lk.length ≤ 64) (h : EfW w td wl lk t1 t2 t3 k1 k2 k3) (h' : EfW w td wl lk u1 u2 u3 j1 j2 j3) :
    Calls Tryz.prog 12 #[.agg #[.int .i64 st, .int .i64 at_, .slice t1 td.length k1, .slice t2 wl.length k2, .slice t3 lk.length k3], .agg #[.int .i64 st, .int .i64 at_, .slice u1 td.length j1, .slice u2 wl.length j2, .slice u3 lk.length j3]] w fun e w' => e = .returned (.bool true) ∧ Below w.heap.size w w' := by
  have hb := below2 w (.cells #[.int .i64 st, .int .i64 at_, .slice t1 td.length k1, .slice t2 wl.length k2, .slice t3 lk.length k3] 40) (.cells #[.int .i64 st, .int .i64 at_, .slice u1 td.length j1, .slice u2 wl.length j2, .slice u3 lk.length j3] 40)
  have b1 := two1 w (.cells #[.int .i64 st, .int .i64 at_, .slice t1 td.length k1, .slice t2 wl.length k2, .slice t3 lk.length k3] 40) (.cells #[.int .i64 st, .int .i64 at_, .slice u1 td.length j1, .slice u2 wl.length j2, .slice u3 lk.length j3] 40)
  have b2 := two2 w (.cells #[.int .i64 st, .int .i64 at_, .slice t1 td.length k1, .slice t2 wl.length k2, .slice t3 lk.length k3] 40) (.cells #[.int .i64 st, .int .i64 at_, .slice u1 td.length j1, .slice u2 wl.length j2, .slice u3 lk.length j3] 40)
  have HB := hid (And.intro hb (And.intro b1 b2))
  have HS1 := hid (fun W (hW : Below w.heap.size w W) => ended_any st at_ (.slice t1 td.length k1) (.slice u1 td.length j1) td W (by omega) ((rf_of_owns h.o1 (vcs_one _)).below hW) ((rf_of_owns h'.o1 (vcs_one _)).below hW))
  have HS2 := hid (fun W (hW : Below w.heap.size w W) => same36_any (.slice t2 wl.length k2) (.slice u2 wl.length j2) wl W (by omega) ((rf_of_owns h.o2 (ecs_one _)).below hW) ((rf_of_owns h'.o2 (ecs_one _)).below hW))
  have HS3 := hid (fun W (hW : Below w.heap.size w W) => same37_any (.slice t3 lk.length k3) (.slice u3 lk.length j3) lk W (by omega) ((rf_of_owns h.o3 (lcs_one _)).below hW) ((rf_of_owns h'.o3 (lcs_one _)).below hW))
  clear h h' hb b1 b2 n1 n2 n3
  go_enter Tryz.func12, Tryz.ntmps12
  go_wp2_with (first
    | (go_at_call 27
       refine (HS1.out _ HB.out.1).mono ?_
       rintro e w2 ⟨rfl, hb2⟩
       have g1 := blk_of hb2 HB.out.2.1 (hp_lt HB.out.2.1)
       have g2 := blk_of hb2 HB.out.2.2 (hp_lt HB.out.2.2)
       obtain ⟨r0, r1, r2, r3, r4, r5⟩ := cells5f g1
       obtain ⟨s0, s1, s2, s3, s4, s5⟩ := cells5f g2
       have H2 := hid (And.intro (below_on HB.out.1 hb2) (And.intro g1 g2))
       clear hb2 g1 g2)
    | (go_at_call 14
       refine (HS2.out _ H2.out.1).mono ?_
       rintro e w3 ⟨rfl, hb3⟩
       have g1 := blk_of hb3 H2.out.2.1 (hp_lt H2.out.2.1)
       have g2 := blk_of hb3 H2.out.2.2 (hp_lt H2.out.2.2)
       obtain ⟨p0, p1, p2, p3, p4, p5⟩ := cells5f g1
       obtain ⟨q0, q1, q2, q3, q4, q5⟩ := cells5f g2
       have H3 := hid (below_on H2.out.1 hb3)
       clear hb3 g1 g2)
    | (go_at_call 28
       refine (HS3.out _ H3.out).mono ?_
       rintro e w4 ⟨rfl, hb4⟩
       have H4 := hid (below_on H3.out hb4)
       clear hb4))
  go_ret
  exact ⟨rfl, H4.out⟩
end Go.Proofs.YthcoigbkdbkojabGreat
namespace Go.Proofs.YthcoigbkdbkojabGreat.V
open Go.RowKit Go.MapKept
structure PC (w : World) (p : Nat) (g : ByteArray → Option Pd) (n B : Nat) : Prop where
  ex : ∃ t f, ZS w p t f (n : Int) false ∧ t.n = n ∧ (∀ e ∈ t.toL, (f (bk e.2.2)).has (f (bk e.2.2)).r = true) ∧ (∀ key, (ent key t.toL).map (fun e => rdS (f (bk e.2.2))) = g key) ∧
    B ≤ p ∧ (∀ j ∈ t.bs, B ≤ j) ∧ (∀ e ∈ t.toL, B ≤ bk e.2.2)
theorem PC.below {w w' : World} {p : Nat} {g : ByteArray → Option Pd} {n B : Nat} (h : PC w p g n B) (hb : Below w.heap.size w w') : PC w' p g n B := by
  obtain ⟨t, f, hz, hr⟩ := h.ex
  exact ⟨⟨t, f, hz.below hb, hr⟩⟩
theorem PC.pv {w : World} {p : Nat} {g : ByteArray → Option Pd} {n B : Nat} (h : PC w p g n B) : PV w p g false n B := by
  obtain ⟨t, f, hz, hn, hs, hg, hr⟩ := h.ex
  exact ⟨⟨t, f, _, hz, ⟨by omega, Int.le_refl _⟩, Nat.le_of_eq hn, hs, hg, hr⟩⟩
theorem cput (p : Nat) (key : ByteArray) (v : Pd) (g : ByteArray → Option Pd) (n B : Nat) (w : World) (h : PC w p g n B) (hB : B ≤ w.heap.size) (hn : n ≤ 500000) (hk : key.size ≤ 281474976710656) (hfree : g key = none) :
    Calls Tryz.prog 24 #[.pointer (some ⟨p, 0, none⟩), .string key, v.agg] w fun x w' => x = .returned (.tuple #[]) ∧ PC w' p (updG g key v) (n + 1) B ∧ Kept (fun j => B ≤ j) w w' := by
  obtain ⟨t, f, hz, hn1, hs, hg, b1, b2, b3⟩ := h.ex
  have hq : ent key t.toL = none := by
    have h1 := hg key
    rw [hfree] at h1
    cases hq : ent key t.toL with
    | none => rfl
    | some e => rw [hq] at h1; cases h1
  refine (sput_new p key v t f n false w hz ⟨by omega, by omega⟩ (by omega) hk hq).mono ?_
  rintro x w' ⟨rfl, t', b, n', hb, hl', hz', hk', hnw⟩
  have hperm := ins_perm (n', key, Value.pointer (some ⟨b, 0, none⟩)) t.toL
  have hmem : ∀ e, e ∈ t'.toL ↔ e = (n', key, Value.pointer (some ⟨b, 0, none⟩)) ∨ e ∈ t.toL := fun e => by rw [hl', hperm.mem_iff, List.mem_cons]
  have hlt := (hz.lt).2.2
  have hne : ∀ e ∈ t.toL, bk e.2.2 ≠ b := fun e he e3 => by have := hlt e he; omega
  have fo : ∀ e ∈ t.toL, updF (updF f b s0) b (s0.lay v true) (bk e.2.2) = f (bk e.2.2) := fun e he => by unfold updF; rw [if_neg (hne e he), if_neg (hne e he)]
  have fn : updF (updF f b s0) b (s0.lay v true) (bk (Value.pointer (some ⟨b, 0, none⟩))) = s0.lay v true := by unfold updF; rw [show bk (Value.pointer (some ⟨b, 0, none⟩)) = b from rfl, if_pos rfl]
  refine ⟨rfl, ⟨t', _, by rw [show ((n + 1 : Nat) : Int) = (n : Int) + 1 by omega]; exact hz', ?_, ?_, ?_, b1, ?_, ?_⟩, hk'.mono (fun j _ e => e.elim (fun e => by rw [e]; exact b1) (b2 j))⟩
  · have : t'.n = t.n + 1 := by
      unfold Tr.n
      rw [hl', hperm.length_eq, List.length_cons]
    omega
  · intro e he
    rcases (hmem e).1 he with rfl | h1
    · show (updF _ _ _ (bk (Value.pointer (some ⟨b, 0, none⟩)))).has _ = true
      rw [fn]
      exact lay_keep _ _ _
    · rw [fo e h1]
      exact hs e h1
  · intro k
    unfold updG
    by_cases hkk : k = key
    · subst hkk
      rw [if_pos rfl]
      have := ent_of_mem hz'.tb.rs ((hmem _).2 (.inl rfl))
      rw [show ent k t'.toL = _ from this]
      show some (rdS (updF _ _ _ (bk (Value.pointer (some ⟨b, 0, none⟩))))) = _
      rw [fn]
      unfold rdS
      rw [lay_copy]
    · rw [if_neg hkk, ← hg k]
      cases hq2 : ent k t.toL with
      | none =>
        cases hq3 : ent k t'.toL with
        | none => rfl
        | some e =>
          obtain ⟨h1, h2⟩ := ent_some hq3
          rcases (hmem e).1 h1 with rfl | h3
          · exact absurd h2.symm hkk
          · exact absurd h2 (ent_none hq2 e h3)
      | some e =>
        obtain ⟨h1, h2⟩ := ent_some hq2
        have := ent_of_mem hz'.tb.rs ((hmem e).2 (.inr h1))
        rw [h2] at this
        rw [this]
        show some (rdS _) = some (rdS _)
        rw [fo e h1]
  · intro j hj
    rcases hnw j hj with h1 | h1
    · exact b2 j h1
    · omega
  · intro e he
    rcases (hmem e).1 he with rfl | h1
    · show B ≤ b
      omega
    · exact b3 e h1
end Go.Proofs.YthcoigbkdbkojabGreat.V
namespace Go.Proofs.YthcoigbkdbkojabGreat
open Go.RowKit Go.MapKept
open V (hp_new hp_lt hp_below hp_alloc kl)
structure VC (w : World) (p : Nat) (L : KV) : Prop where
  vl : VL w p L
  ct : ∃ u0 u1, w.heap[p]? = some (.cells #[u0, u1, .int .i64 (L.length : Nat), .bool false] 114 (0, 0))
theorem VC.below {w w' : World} {p : Nat} {L : KV} (h : VC w p L) (hb : Below w.heap.size w w') : VC w' p L := by
  obtain ⟨u0, u1, hc⟩ := h.ct
  exact ⟨h.vl.below hb, u0, u1, blk_of hb hc (hp_lt hc)⟩
theorem vc_of {w : World} {p n B : Nat} {T : KV} (h : V.PC w p (stG T) n B) (ha : Asc T) (hn : n = T.length) : VC w p T := by
  refine ⟨vl_of_store h.pv ha, ?_⟩
  obtain ⟨t, f, hz, -⟩ := h.ex
  rw [hn] at hz
  exact ⟨_, _, hz.tb.blk⟩
set_option maxHeartbeats 800000 in
theorem vlen (w : World) (p : Nat) (L : KV) (h : VC w p L) : Calls Tryz.prog 31 #[.pointer (some ⟨p, 0, none⟩)] w fun e w' => e = .returned (.int .i64 (L.length : Nat)) ∧ w' = w := by
  obtain ⟨u0, u1, hc⟩ := h.ct
  have y2 : w.cell? ⟨p, 2, none⟩ = some (.int .i64 (L.length : Nat)) := by rw [cell_of_row _ _ _ _ _ _ hc]; rfl
  clear h hc
  go_enter Tryz.func31, Tryz.ntmps31
  go_wp2
  go_ret
  exact ⟨rfl, rfl⟩
set_option maxHeartbeats 800000 in
theorem vmarked (w : World) (p : Nat) (L : KV) (h : VC w p L) : Calls Tryz.prog 32 #[.pointer (some ⟨p, 0, none⟩)] w fun e w' => e = .returned (.bool false) ∧ w' = w := by
  obtain ⟨u0, u1, hc⟩ := h.ct
  have y3 : w.cell? ⟨p, 3, none⟩ = some (.bool false) := by rw [cell_of_row _ _ _ _ _ _ hc]; rfl
  clear h hc
  go_enter Tryz.func32, Tryz.ntmps32
  go_wp2
  go_ret
  exact ⟨rfl, rfl⟩
theorem bears_any (i k n : Nat) (w : World) (hi : i ≤ 1000) : Calls Tryz.prog 13 #[.int .i64 i, .int .i64 k, .int .i64 n] w fun e w' => e = .returned (.int .i64 ((if k < n then 10 + i else 100 + i : Nat) : Int)) ∧ w' = w := by
  have h1 : IntKind.i64.wrap (10 + (i : Int)) = 10 + (i : Int) := by rw [IntKind.wrap_i64]; omega
  have h2 : IntKind.i64.wrap (100 + (i : Int)) = 100 + (i : Int) := by rw [IntKind.wrap_i64]; omega
  clear hi
  by_cases hk : k < n
  · rw [if_pos hk]
    have h3 : decide ((k : Int) < (n : Int)) = true := by rw [decide_eq_true_eq]; omega
    go_enter Tryz.func13, Tryz.ntmps13
    go_wp2
    go_ret
    exact ⟨by push_cast; rfl, rfl⟩
  · rw [if_neg hk]
    have h3 : decide ((k : Int) < (n : Int)) = false := by rw [decide_eq_false_iff_not]; omega
    have h4 : decide (k < n) = false := by rw [decide_eq_false_iff_not]; exact hk
    clear hk
    go_enter Tryz.func13, Tryz.ntmps13
    go_wp2
    go_ret
    exact ⟨by push_cast; rfl, rfl⟩
theorem stG_fresh {T : KV} (ha : Asc T) (k : Nat) (hk : k < T.length) : stG (T.take k) T[k].1 = none := by
  have h1 := stG_lkp (T := T.take k) (List.Pairwise.sublist (List.take_sublist _ _) ha) T[k].1
  have h2 : lkp T[k].1 (T.take k) = none := by
    rw [lkp_none]
    intro hm
    obtain ⟨x, hx, e⟩ := List.mem_map.1 hm
    obtain ⟨j, hj, e2⟩ := List.mem_take_iff_getElem.1 hx
    have h3 := (List.pairwise_iff_getElem.1 ha) j k (by omega) hk (by omega)
    rw [e2] at h3
    exact V.kl_ne h3 e
  rw [h2] at h1
  cases h4 : stG (T.take k) T[k].1 with
  | none => rfl
  | some v => rw [h4] at h1; cases h1
def mkI (i : Nat) : Ins := ⟨40 + (i : Int), 0, 0, 0, 0, 0, 0, emp⟩
def mkV (i : Nat) : Vd := ⟨50 + (i : Int), 0, emp⟩
theorem markI_any (k : Nat) (w : World) (hk : k ≤ 1000) : Calls Tryz.prog 25 #[.int .i64 k] w fun e w' => e = .returned (mkI k).val ∧ Below w.heap.size w w' := by
  have h1 : IntKind.i64.wrap (40 + (k : Int)) = 40 + (k : Int) := by rw [IntKind.wrap_i64]; omega
  clear hk
  go_enter Tryz.func25, Tryz.ntmps25
  go_wp2
  go_returns
  exact ⟨rfl, below1 w _⟩
theorem markV_any (k : Nat) (w : World) (hk : k ≤ 1000) : Calls Tryz.prog 26 #[.int .i64 k] w fun e w' => e = .returned (mkV k).val ∧ Below w.heap.size w w' := by
  have h1 : IntKind.i64.wrap (50 + (k : Int)) = 50 + (k : Int) := by rw [IntKind.wrap_i64]; omega
  clear hk
  go_enter Tryz.func26, Tryz.ntmps26
  go_wp2
  go_returns
  exact ⟨rfl, below1 w _⟩
theorem Tryz.info31 : (Tryz.prog.info? 31).map (fun i => (i.zero, i.size, i.bytes)) = some (some (.agg #[.int .i64 0, .int .i64 0, .int .i64 0, .int .i64 0, .int .i64 0, .int .i64 0, .int .i64 0, .string ⟨#[]⟩]), 8, 72) := by kernel_rfl
structure Tz (w W : World) (nm : ByteArray) (ar : Int) (S L1 L2 : Value) (ys : List Ins) (zs : List Vd) : Prop where
  r0 : W.heap[w.heap.size]? = some (.cells #[.string nm, .int .i64 ar, S] 34 (0, 0))
  r1 : W.heap[w.heap.size + 1]? = some (.cells #[.string emp, .int .i64 0, .slice none 0 0] 34 (0, 0))
  o1 : W.ownsRow (w.heap.size + 2) 31 8 L1 ys.length (ys.flatMap Ins.cells)
  o2 : W.ownsRow (w.heap.size + 2) 29 3 L2 zs.length (zs.flatMap vcs)
  hb : Below w.heap.size w W
section
variable {w W W1 : World} {nm : ByteArray} {ar : Int} {S L1 L2 L' : Value} {ys ks : List Ins} {zs us : List Vd}
theorem Tz.go (h : Tz w W nm ar S L1 L2 ys zs) (hb : Below W.heap.size W W1) : Tz w W1 nm ar S L1 L2 ys zs :=
  ⟨blk_of hb h.r0 (hp_lt h.r0), blk_of hb h.r1 (hp_lt h.r1), ownsRow_kept h.o1 (Kept.ofBelow hb) (fun _ _ h => h), ownsRow_kept h.o2 (Kept.ofBelow hb) (fun _ _ h => h), below_on h.hb hb⟩
theorem row_grown {B B' : Nat} {e e' : TypeId} {m m' n n' : Nat} {v v' : Value} {xs xs' : List Value} (h : W.ownsRow B e m v n xs) (h' : W.ownsRow B' e' m' v' n' xs') (hne : e ≠ e') (hg : W.grownBy W1 v.ownBlock) : W1.ownsRow B' e' m' v' n' xs' := by
  refine h'.kept hg ?_
  cases hv : v'.ownBlock with
  | none => exact .inl rfl
  | some k =>
    refine .inr (fun e2 => ?_)
    obtain ⟨c1, g1⟩ := owns_ty h (k := k) e2.symm
    obtain ⟨c2, g2⟩ := owns_ty h' (k := k) hv
    rw [g1] at g2
    injection g2 with g2
    injection g2 with _ g2
    exact hne g2
theorem Tz.app1 (h : Tz w W nm ar S L1 L2 ys zs) (hown : W1.ownsRow (w.heap.size + 2) 31 8 L' (ys.length + ks.length) (ys.flatMap Ins.cells ++ ks.flatMap Ins.cells)) (hg : W.grownBy W1 L1.ownBlock) : Tz w W1 nm ar S L' L2 (ys ++ ks) zs := by
  have hne : ∀ r, r < w.heap.size + 2 → L1.ownBlock ≠ some r := fun r hr e => by have := (h.o1.lt r e).1; omega
  refine ⟨(hg.block _ (hp_lt h.r0) (fun e => hne _ (by omega) e.symm)).trans h.r0, (hg.block _ (hp_lt h.r1) (fun e => hne _ (by omega) e.symm)).trans h.r1, ?_, row_grown h.o1 h.o2 (by decide) hg, h.hb.grown hg h.hb.size (fun k hk => by have := (h.o1.lt k hk).1; omega)⟩
  rw [← List.flatMap_append] at hown
  rw [List.length_append]
  exact hown
theorem Tz.app2 (h : Tz w W nm ar S L1 L2 ys zs) (hown : W1.ownsRow (w.heap.size + 2) 29 3 L' (zs.length + us.length) (zs.flatMap vcs ++ us.flatMap vcs)) (hg : W.grownBy W1 L2.ownBlock) : Tz w W1 nm ar S L1 L' ys (zs ++ us) := by
  have hne : ∀ r, r < w.heap.size + 2 → L2.ownBlock ≠ some r := fun r hr e => by have := (h.o2.lt r e).1; omega
  refine ⟨(hg.block _ (hp_lt h.r0) (fun e => hne _ (by omega) e.symm)).trans h.r0, (hg.block _ (hp_lt h.r1) (fun e => hne _ (by omega) e.symm)).trans h.r1, row_grown h.o2 h.o1 (by decide) hg, ?_, h.hb.grown hg h.hb.size (fun k hk => by have := (h.o2.lt k hk).1; omega)⟩
  rw [← List.flatMap_append] at hown
  rw [List.length_append]
  exact hown
theorem Tz.row1 {n : Nat} {o : Obj} (h : Tz w W nm ar S L1 L2 ys zs) (hn : ys.length = n) : (W.alloc o).ownsRow (w.heap.size + 2) 31 8 L1 n (ys.flatMap Ins.cells) := by
  rw [← hn]; exact h.o1.alloc _
theorem Tz.row2 {n : Nat} {o : Obj} (h : Tz w W nm ar S L1 L2 ys zs) (hn : zs.length = n) : (W.alloc o).ownsRow (w.heap.size + 2) 29 3 L2 n (zs.flatMap vcs) := by
  rw [← hn]; exact h.o2.alloc _
theorem Tz.base (h : Tz w W nm ar S L1 L2 ys zs) : w.heap.size + 2 ≤ W.heap.size := by
  have := hp_lt h.r1
  omega
theorem Tz.base1 (h : Tz w W nm ar S L1 L2 ys zs) (o : Obj) : w.heap.size + 2 ≤ (W.alloc o).heap.size := by
  have := h.base
  simp
  omega
end
theorem rfI_new (w : World) (x : Ins) : Rf (w.alloc (io x.op x.a x.b x.c x.n x.k x.i x.t)) 8 (.slice (some ⟨w.heap.size, 0, none⟩) 1 1) 1 ([x].flatMap Ins.cells) :=
  rf_new w 31 #[.int .i64 x.op, .int .i64 x.a, .int .i64 x.b, .int .i64 x.c, .int .i64 x.n, .int .i64 x.k, .int .i64 x.i, .string x.t] 8 rfl (by intro u hu; simp at hu; rcases hu with rfl | rfl | rfl | rfl | rfl | rfl | rfl | rfl <;> rfl)
theorem rfV_new (w : World) (x : Vd) : Rf (w.alloc (.cells #[.int .i64 x.k, .int .i64 x.i, .string x.t] 29)) 3 (.slice (some ⟨w.heap.size, 0, none⟩) 1 1) 1 ([x].flatMap vcs) :=
  rf_new w 29 #[.int .i64 x.k, .int .i64 x.i, .string x.t] 3 rfl (by intro u hu; simp at hu; rcases hu with rfl | rfl | rfl <;> rfl)
abbrev xsT (xs : List Ins) (k : Nat) : List Ins := xs ++ (List.range k).map mkI
abbrev vsT (vs : List Vd) (k : Nat) : List Vd := vs ++ (List.range k).map mkV
theorem xsT_succ (xs : List Ins) (k : Nat) : xsT xs (k + 1) = xsT xs k ++ [mkI k] := by simp [xsT, List.range_succ]
theorem vsT_succ (vs : List Vd) (k : Nat) : vsT vs (k + 1) = vsT vs k ++ [mkV k] := by simp [vsT, List.range_succ]
theorem xsT_len (xs : List Ins) (k : Nat) : (xsT xs k).length = xs.length + k := by simp [xsT]
theorem vsT_len (vs : List Vd) (k : Nat) : (vsT vs k).length = vs.length + k := by simp [vsT]
theorem load34 {w : World} {r : Nat} {a b c : Value} (hb : w.heap[r]? = some (.cells #[a, b, c] 34 (0, 0))) : (loadVar 34 ⟨r, 0, none⟩).run Tryz.prog w = .ok (.agg #[a, b, c]) w := by
  obtain ⟨c0, c1, c2, _⟩ := vfacts hb
  simp [go_sem, c0, c1, c2]
theorem ret_tw {fn : Func} {p u : Tmp} (h : fn.results = #[.cell p 34, .tmp u]) {tmps : Array Value} {r : Nat} {w : World} {a b c : Value} (ht : tmps.getD p undef = .pointer (some ⟨r, 0, none⟩)) (hb : w.heap[r]? = some (.cells #[a, b, c] 34 (0, 0))) :
    (results fn tmps).run Tryz.prog w = .ok (.tuple #[.agg #[a, b, c], tmps.getD u undef]) w := by
  rw [results_cell_tmp h, ht]
  simp [Result.andThen, load34 hb, asAddr]
theorem own_at {W : World} {B : Nat} {e : TypeId} {s : Nat} {ao : Option Addr} {n c : Nat} {cs : List Value} (h : W.ownsRow B e s (.slice ao n c) n cs) (hn : 0 < n) : ∃ g, ao = some ⟨g, 0, none⟩ ∧ B ≤ g ∧ n ≤ c ∧ c ≤ maxLen := by
  rcases h.2 with ⟨e1, e2⟩ | ⟨g, cap, cur, e1, h1, h2, h3, h4, h5⟩
  · omega
  · injection e1 with e1 _ e3
    subst e3
    exact ⟨g, e1, h1, h3, h4⟩
theorem Tz.setS {w W : World} {nm : ByteArray} {ar : Int} {S L1 L2 : Value} {ys : List Ins} {zs : List Vd} (h : Tz w W nm ar S L1 L2 ys zs) (v : Value) : Tz w (W.setCell ⟨w.heap.size, 2, none⟩ v) nm ar v L1 L2 ys zs := by
  have K : Kept (fun k => k = w.heap.size) W (W.setCell ⟨w.heap.size, 2, none⟩ v) := (Kept.refl (fun k => k = w.heap.size) W).setCell (p := ⟨w.heap.size, 2, none⟩) (fun _ => rfl) _
  refine ⟨?_, V.hp_set h.r1 (p := ⟨w.heap.size, 2, none⟩) (by show ¬ w.heap.size + 1 = w.heap.size; omega) _, ownsRow_kept h.o1 K (fun q hq e => by have := (h.o1.lt q hq).1; omega), ownsRow_kept h.o2 K (fun q hq e => by have := (h.o2.lt q hq).1; omega), h.hb.setCell (p := ⟨w.heap.size, 2, none⟩) (Nat.le_refl _) v⟩
  have h0 := h.r0
  simp [World.setCell, Array.getElem?_modify, h0]
def TwP (nm : ByteArray) (ar : Int) (xs : List Ins) (vs : List Vd) (w : World) (e : Ending) (w' : World) : Prop :=
  ∃ g1 c1 g2 c2, e = .returned (.tuple #[.agg #[.string nm, .int .i64 ar, .slice (some ⟨g1, 0, none⟩) xs.length c1], .slice (some ⟨g2, 0, none⟩) vs.length c2]) ∧ xs.length + 5 ≤ c1 ∧ vs.length + 5 ≤ c2 ∧
    Rf w' 8 (.slice (some ⟨g1, 0, none⟩) (xs.length + 5) c1) (xs.length + 5) ((xsT xs 5).flatMap Ins.cells) ∧ Rf w' 3 (.slice (some ⟨g2, 0, none⟩) (vs.length + 5) c2) (vs.length + 5) ((vsT vs 5).flatMap vcs) ∧ Below w.heap.size w w'
set_option maxHeartbeats 6400000 in
theorem twin_any (nm : ByteArray) (ar : Int) (S A : Value) (xs : List Ins) (vs : List Vd) (w : World) (h : Rf w 8 S xs.length (xs.flatMap Ins.cells)) (h2 : Rf w 3 A vs.length (vs.flatMap vcs)) (hl : xs.length ≤ 1000) (hl2 : vs.length ≤ 1000) :
    Calls Tryz.prog 11 #[.agg #[.string nm, .int .i64 ar, S], A] w (TwP nm ar xs vs w) := by
  obtain ⟨n, hn⟩ : ∃ n, n = xs.length := ⟨_, rfl⟩
  obtain ⟨m, hm⟩ : ∃ m, m = vs.length := ⟨_, rfl⟩
  have HR := hid (And.intro h h2)
  have HL := hid (And.intro hn hm)
  rw [← hn] at HR
  rw [← hm] at HR
  obtain ⟨ao, cap, rfl, -, -⟩ := h.shape
  obtain ⟨bo, cap2, rfl, -, -⟩ := h2.shape
  have hb0 : Below w.heap.size w ((w.alloc (.cells #[.string nm, .int .i64 ar, .slice ao xs.length cap] 34)).alloc (.cells #[.string emp, .int .i64 0, .slice none 0 0] 34)) := (below1 w _).alloc (by simp) _
  have H0 : Hid (Tz w ((w.alloc (.cells #[.string nm, .int .i64 ar, .slice ao xs.length cap] 34)).alloc (.cells #[.string emp, .int .i64 0, .slice none 0 0] 34)) nm ar (.slice ao xs.length cap) (.slice none 0 0) (.slice none 0 0) [] []) :=
    hid ⟨two1 w _ _, two2 w _ _, owns_nil _ _ _ _, owns_nil _ _ _ _, hb0⟩
  rw [← hn] at H0 HR ⊢
  rw [← hm] at HR ⊢
  have hn1 : n ≤ 1000 := by omega
  have hm1 : m ≤ 1000 := by omega
  clear h h2 hb0 hn hm hl hl2
  go_enter Tryz.func11, Tryz.ntmps11
  go_upto_region 1 with fail
  refine cutG (fun W => Tz w W nm ar (.slice ao n cap) (.slice none 0 0) (.slice none 0 0) [] []) H0.out ?_
  intro W0 hW0
  clear H0
  have H0 := hid hW0
  have HRf := hid (And.intro (HR.out.1.below hW0.hb) (And.intro (HR.out.2.below hW0.hb) hW0.base))
  obtain ⟨p0, p1, p2, pf⟩ := vfacts hW0.r0
  clear hW0
  go_upto_region 3 with (at_builtin; go_loud (
    refine wpList_append_rf _ rfl _ _ 32 31 _ 8 72 rfl Tryz.underlying32 Tryz.info31 rfl (by decide) (w.heap.size + 2) _ 0 [] rfl H0.out.o1 _ n _ rfl HRf.out.1 (by omega) (by unfold maxLen; omega) HRf.out.2.2 ?_
    intro a1 c1 w1 hown hgrow hat
    have H1 := hid (H0.out.app1 (ks := xs) (by rw [← HL.out.1]; exact hown.out) hgrow.out)
    have HA1 := hid hat.out
    clear hown hgrow hat))
  have HR1 := hid (HR.out.2.below H1.out.hb)
  clear p0 p1 p2 pf HRf H0 HA1
  go_upto_region 5 with (at_builtin; go_loud (
    refine wpList_append_rf _ rfl _ _ 35 29 _ 3 32 rfl Tryz.underlying35 Tryz.info29 rfl (by decide) (w.heap.size + 2) _ 0 [] rfl H1.out.o2 _ m _ rfl HR1.out (by omega) (by unfold maxLen; omega) H1.out.base ?_
    intro a2 c2 w2 hown hgrow hat
    have H2 := hid (H1.out.app2 (us := vs) (by rw [← HL.out.2]; exact hown.out) hgrow.out)
    clear hown hgrow hat))
  clear H1 HR1
  go_wp2_with fail
  go_loopw [6, 7, 8] (fun l1 l2 ix wr => ∃ (k : Nat) (b1 : Option Addr) (d1 : Nat) (b2 : Option Addr) (d2 : Nat), k ≤ 5 ∧ ix = .int .i64 k ∧ l1 = .slice b1 (n + k) d1 ∧ l2 = .slice b2 (m + k) d2 ∧ Hid (Tz w wr nm ar (.slice ao n cap) (.slice b1 (n + k) d1) (.slice b2 (m + k) d2) (xsT xs k) (vsT vs k))) (fun _ _ ix _ => 5 - (intOf ix).toNat)
  case atStart => exact ⟨0, a1, c1, a2, c2, by omega, rfl, by simp, by simp, hid (by simpa [xsT, vsT] using H2.out)⟩
  case round =>
    clear H2
    obtain ⟨k, b1, d1, b2, d2, hk, rfl, rfl, rfl, hT⟩ := hrel
    by_cases hlt : k < 5
    · have hlt' : (k : Int) < 5 := by omega
      have HM1 := hid (fun W => markI_any k W (by omega))
      have HM2 := hid (fun W => markV_any k W (by omega))
      unfold Ins.val mkI at HM1
      unfold Vd.val mkV at HM2
      dsimp only at HM1 HM2
      go_upto_region 9 with (first
        | (go_at_call 25
           refine (HM1.out _).mono ?_
           rintro e w3 ⟨rfl, hb3⟩
           have H3 := hid (hT.out.go hb3)
           clear hb3 HM1)
        | (at_builtin; go_loud (
           refine wpList_append_rf _ rfl _ _ 32 31 _ 8 72 rfl Tryz.underlying32 Tryz.info31 rfl (by decide) (w.heap.size + 2) _ (n + k) _ rfl (H3.out.row1 (by rw [xsT_len, HL.out.1])) _ 1 ([mkI k].flatMap Ins.cells) rfl (rfI_new w3 (mkI k)) (by omega) (by unfold maxLen; omega) (H3.out.base1 _) ?_
           intro b3 d3 w4 hown hgrow hat
           have H4 := hid ((H3.out.go (below1 w3 _)).app1 (ks := [mkI k]) (by rw [xsT_len, ← HL.out.1]; exact hown.out) hgrow.out)
           clear hown hgrow hat)))
      clear H3
      go_wp2_with (first
        | (go_at_call 26
           refine (HM2.out _).mono ?_
           rintro e w5 ⟨rfl, hb5⟩
           have H5 := hid (H4.out.go hb5)
           clear hb5 HM2)
        | (at_builtin; go_loud (
           refine wpList_append_rf _ rfl _ _ 35 29 _ 3 32 rfl Tryz.underlying35 Tryz.info29 rfl (by decide) (w.heap.size + 2) _ (m + k) _ rfl (H5.out.row2 (by rw [vsT_len, HL.out.2])) _ 1 ([mkV k].flatMap vcs) rfl (rfV_new w5 (mkV k)) (by omega) (by unfold maxLen; omega) (H5.out.base1 _) ?_
           intro b4 d4 w6 hown hgrow hat
           have H6 := hid ((H5.out.go (below1 w5 _)).app2 (us := [mkV k]) (by rw [vsT_len, ← HL.out.2]; exact hown.out) hgrow.out)
           clear hown hgrow hat)))
      go_roundw
      case rel =>
        refine ⟨k + 1, b3, d3, b4, d4, by omega, by go_num, by simp [Nat.add_assoc], by simp [Nat.add_assoc], hid ?_⟩
        have h1 := H6.out
        rw [← xsT_succ, ← vsT_succ] at h1
        exact h1
      case measure => simp [intOf]; omega
    · obtain rfl : k = 5 := by omega
      obtain ⟨g1, rfl, hg1, hc1, hm1'⟩ := own_at (by have h1 := hT.out.o1; rw [xsT_len, ← HL.out.1] at h1; exact h1) (by omega)
      obtain ⟨g2, rfl, hg2, hc2, hm2'⟩ := own_at (by have h1 := hT.out.o2; rw [vsT_len, ← HL.out.2] at h1; exact h1) (by omega)
      obtain ⟨p0, p1, p2, pf⟩ := vfacts hT.out.r0
      obtain ⟨q0, q1, q2, qf⟩ := vfacts hT.out.r1
      have hz1 := hp_lt hT.out.r0
      have hz2 := hp_lt hT.out.r1
      have HT := hid (And.intro hT.out (And.intro hg1 hg2))
      clear hT hg1 hg2 hk hlt
      go_upto_region 10 with fail
      go_upto_region 11 with fail
      refine cutG (fun W => Tz w W nm ar (.slice (some ⟨g1, 0, none⟩) n d1) (.slice (some ⟨g1, 0, none⟩) (n + 5) d1) (.slice (some ⟨g2, 0, none⟩) (m + 5) d2) (xsT xs 5) (vsT vs 5)) (HT.out.1.setS _) ?_
      clear p0 p1 p2 pf q0 q1 q2 qf hz1 hz2
      intro V1 hV1
      obtain ⟨p0, p1, p2, pf⟩ := vfacts hV1.r0
      obtain ⟨q0, q1, q2, qf⟩ := vfacts hV1.r1
      have HV := hid (And.intro hV1 HT.out.2)
      clear hV1 HT
      go_region
      go_wp2_with fail
      refine bodyPost_ret (ret_tw Tryz.results11 rfl (set3 HV.out.1.r1 _ _ _)) rfl ?_
      have K : Kept (fun k => k = w.heap.size + 1) V1.drew ((((V1.drew).setCell ⟨w.heap.size + 1, 0, none⟩ (.string nm)).setCell ⟨w.heap.size + 1, 1, none⟩ (.int .i64 ar)).setCell ⟨w.heap.size + 1, 2, none⟩ (.slice (some ⟨g1, 0, none⟩) n d1)) := (((Kept.refl (fun k => k = w.heap.size + 1) V1.drew).setCell (p := ⟨w.heap.size + 1, 0, none⟩) (fun _ => rfl) _).setCell (p := ⟨w.heap.size + 1, 1, none⟩) (fun _ => rfl) _).setCell (p := ⟨w.heap.size + 1, 2, none⟩) (fun _ => rfl) _
      have o1 := ownsRow_kept (HV.out.1.go ((Below.refl _ V1).drew)).o1 K (fun q hq e => by have := (HV.out.1.o1.lt q hq).1; omega)
      have o2 := ownsRow_kept (HV.out.1.go ((Below.refl _ V1).drew)).o2 K (fun q hq e => by have := (HV.out.1.o2.lt q hq).1; omega)
      have hbw : Below w.heap.size w _ := (HV.out.1.go ((Below.refl _ V1).drew)).hb.trans (K.below (HV.out.1.go ((Below.refl _ V1).drew)).hb.size (fun k hk e => by omega))
      have hr1 := rf_of_owns o1 (fun u hu => by obtain ⟨x, _, hx⟩ := List.mem_flatMap.1 hu; exact ins_one x u hx)
      have hr2 := rf_of_owns o2 (vcs_one _)
      rw [xsT_len] at hr1
      rw [vsT_len] at hr2
      refine ⟨g1, d1, g2, d2, by rw [← HL.out.1, ← HL.out.2]; rfl, by rw [← HL.out.1]; exact hc1, by rw [← HL.out.2]; exact hc2, ?_, ?_, hbw⟩
      · rw [← HL.out.1] at hr1 ⊢; exact hr1
      · rw [← HL.out.2] at hr2 ⊢; exact hr2
end Go.Proofs.YthcoigbkdbkojabGreat
