import Derived.Test.YtlmompdfombgeaaGreatK33
import Derived.Test.YtlmompdfombgeaaGreatK34
import Derived.Test.YtlmompdfombgeaaGreatK35
import Derived.Test.YtlmompdfombgeaaGreatK36
import Derived.Test.YtlmompdfombgeaaGreatK40
import Derived.Test.YtlmompdfombgeaaGreatK22
import Derived.Test.YtlmompdfombgeaaGreatK23
namespace Go.Proofs.YtlmompdfombgeaaGreat
open Go.RowKit Go.MapKept

set_option maxRecDepth 100000 in
set_option maxHeartbeats 6400000 in
theorem st_Hand {w0 w : World} {d r : Nat} {t : Wt} {R : Rt} {D : Dq} {n : Nat} (x : Sp) (p : SPre w0 w d r t R D n x) (hk : x.kind = 11) :
    Calls Tryz.prog 14 #[.pointer (some ⟨d, 0, none⟩), .pointer (some ⟨r, 0, none⟩), .agg #[.int .i64 x.kind, .string x.name, .string x.to, x.dv, .int .i64 x.n, x.sv, x.rv, .int .i64 x.pn, x.fv]] w (SPost w d r t R D n) := by
  obtain ⟨hx, hw0, hlo, hsm, hpr, hwd, hnn, htk, hf1, hf2⟩ := p
  obtain ⟨kind, name, tto, dv, data, nn, sv, gs, rv, gr, pn, fv, pk⟩ := x
  obtain ⟨-, -, hpn, hn1, hn2, hdt, hoct, hfs, -, hfr, -, hpk⟩ := hx
  obtain ⟨m1, m2, m3, m4, m5, m6, m7⟩ := hsm
  obtain ⟨a1, q1, e1, d1, d2⟩ := hdt.shape
  obtain ⟨a2, q2, e2, d3, d4⟩ := hfs.shape
  obtain ⟨a3, q3, e3, d5, d6⟩ := hfr.shape
  obtain ⟨a4, q4, e4, d7, d8⟩ := hpk.1.shape
  dsimp only at e1 e2 e3 e4 hn1 hn2 hk d1 d2 d3 d4 d5 d6 d7 d8 hdt hfs hfr hpk m1 m2 m3 m4 m5 m6 m7 hpn
  subst e1 e2 e3 e4
  dsimp only
  obtain rfl : kind = 11 := hk
  have hdt' : Rf w0 1 (.slice a1 data.length q1) data.length (B8 data) := by
    rw [← flat_u8]
    exact hdt
  have hsl0 := hdt'.sl
  have hw0z := hw0.size
  have hPl := hpr.lt
  have HX := hid (And.intro hpr (And.intro hw0 (And.intro hsl0 (And.intro hlo (And.intro hwd (And.intro htk (And.intro hf1 hf2)))))))
  have HPL := hid hPl
  clear hpr hw0 hsl0 hfs hfr hpk hdt hdt' hoct m7 hlo hwd htk hPl
  have hbx : Below w.heap.size w (w.alloc (.cells #[.int .i64 11, .string name, .string tto, .slice a1 data.length q1, .int .i64 nn, .slice a2 gs.length q2, .slice a3 gr.length q3, .int .i64 pn, .slice a4 pk.length q4] 43)) := (Below.refl _ _).alloc (Nat.le_refl _) _
  have HBX := hid hbx
  clear hbx
  obtain ⟨res, hres⟩ : ∃ res : Int, res = (handP D name data).1 := ⟨_, rfl⟩
  have HRES := hid hres
  clear hres
  go_enter Tryz.func14, Tryz.ntmps14
  go_wp2_with (
    go_at_call 51
    refine (roomy_any (.slice a1 data.length q1) data _ ((HX.out.2.2.1.1.below HX.out.2.1).below HBX.out) (by omega)).mono ?_
    rintro e w1 ⟨rfl, ho1, hb1⟩
    have es := (show (w.alloc (.cells #[.int .i64 11, .string name, .string tto, .slice a1 data.length q1, .int .i64 nn, .slice a2 gs.length q2, .slice a3 gr.length q3, .int .i64 pn, .slice a4 pk.length q4] 43)).heap.size = w.heap.size + 1 from by simp)
    rw [es] at ho1 hb1 ⊢
    have hbw1 : Below w.heap.size w w1 := HBX.out.trans (hb1.mono (by omega))
    have x0 : w1.cell? ⟨w.heap.size, 0, none⟩ = some (.int .i64 11) := (hb1.cell (by simp)).trans (by simp [go_sem])
    have x1 : w1.cell? ⟨w.heap.size, 1, none⟩ = some (.string name) := (hb1.cell (by simp)).trans (by simp [go_sem])
    have x2 : w1.cell? ⟨w.heap.size, 2, none⟩ = some (.string tto) := (hb1.cell (by simp)).trans (by simp [go_sem])
    have x3 : w1.cell? ⟨w.heap.size, 3, none⟩ = some (.slice a1 data.length q1) := (hb1.cell (by simp)).trans (by simp [go_sem])
    have x4 : w1.cell? ⟨w.heap.size, 4, none⟩ = some (.int .i64 nn) := (hb1.cell (by simp)).trans (by simp [go_sem])
    have hz1 : w.heap.size + 1 < w1.heap.size := hp_lt ho1
    have H1 := hid (And.intro ho1 (And.intro hbw1 (HX.out.1.below hbw1)))
    clear ho1 hb1 es hbw1)
  go_wp2_with fail
  have hbd1 : Below w1.heap.size w1 w1.drew := ⟨rfl, rfl, rfl, Nat.le_refl _, fun _ _ => rfl⟩
  have HPD := hid (H1.out.2.2.below hbd1)
  have HCX := hid (show ∀ W, Kept (Pft d r t R D) w1 W → W.cell? ⟨w.heap.size, 1, none⟩ = some (.string name) ∧ W.cell? ⟨w.heap.size, 2, none⟩ = some (.string tto) ∧ W.cell? ⟨w.heap.size, 3, none⟩ = some (.slice a1 data.length q1) ∧ W.cell? ⟨w.heap.size, 4, none⟩ = some (.int .i64 nn) from fun W hk => by
    have hn : ¬ Pft d r t R D w.heap.size := fun e => by have := HPL.out _ e; omega
    exact ⟨hk.cell x1 hn, hk.cell x2 hn, hk.cell x3 hn, hk.cell x4 hn⟩)
  have HK1 := hid (show Kept (Pft d r t R D) w1 w1.drew from (Kept.ofBelow hbd1).mono (fun _ _ e => e.elim))
  have HSD := hid (show ∀ W, Kept (Pft d r t R D) w1 W → Sn W (.slice a1 data.length q1) data ∧ Own W (w.heap.size + 1) (rm data) from fun W hk => by
    have hb0 : Below w0.heap.size w0 W := (HX.out.2.1.trans (H1.out.2.1.mono hw0z)).trans (hk.below (Nat.le_trans hw0z H1.out.2.1.size) (fun k hk e => by have := HX.out.2.2.2.1 k e; omega))
    exact ⟨HX.out.2.2.1.1.below hb0 |> fun h => ⟨h, HX.out.2.2.1.2⟩, hp_kept H1.out.1 hk (fun e => by have := HPL.out _ e; omega)⟩)
  clear hbd1
  go_region_held (fun w' => w'.cell? ⟨w.heap.size, 1, none⟩ = some (.string name) ∧ w'.cell? ⟨w.heap.size, 2, none⟩ = some (.string tto) ∧ w'.cell? ⟨w.heap.size, 3, none⟩ = some (.slice a1 data.length q1) ∧ w'.cell? ⟨w.heap.size, 4, none⟩ = some (.int .i64 nn)) (first | exact HCX.out _ H3.out.2 | exact HCX.out _ H2.out.2 | exact HCX.out _ HK1.out) (first
    | (go_at_call 27
       refine (hand_dk HPD.out.a HX.out.2.2.2.2.1 (by omega) name hn1 _ _ data (given_sl (HSD.out _ HK1.out).2) (fun _ k e => by simp only [Value.ownBlock, Option.some.injEq] at e; subst e; intro e2; have := HPL.out _ (.inl e2); omega) (by omega)).mono ?_
       rintro e w2 ⟨rfl, t2, g2⟩
       rw [← HRES.out]
       have p2 := HPD.out.prog g2
       have hk2 : Kept (Pft d r t R D) w1 w2 := HK1.out.trans p2.kp (fun _ _ e => e)
       obtain ⟨t1', t2', t3', t4'⟩ := HCX.out w2 hk2
       have H2 := hid (And.intro p2 hk2)
       clear g2 p2 hk2)
    | (go_at_call 67
       refine (hand_r H2.out.1.pr.b HX.out.2.2.2.2.1 (by omega) HX.out.2.2.2.2.2.1 name hn1 _ _ data (HSD.out _ H2.out.2).1 (by omega)).mono ?_
       rintro e w3 ⟨rfl, R3, g3⟩
       rw [← HRES.out]
       have p3 := H2.out.1.trans (H2.out.1.pr.doc g3)
       have hk3 : Kept (Pft d r t R D) w1 w3 := HK1.out.trans p3.kp (fun _ _ e => e)
       obtain ⟨u1', u2', u3', u4'⟩ := HCX.out w3 hk3
       have H3 := hid (And.intro p3 hk3)
       clear g3 p3 hk3))
  have HS := hid (show PG d r w1 t R D w3 t2 R3 (handP D name data).2 (handP D name data).2 ∧ Kept (Pft d r t R D) w1 w3 from ⟨⟨H3.out.1.pr, H3.out.2, fun k e => H3.out.1.ft k e⟩, H3.out.2⟩)
  go_wp2_with (
    go_at_call 68
    refine (left_any (.slice a1 data.length q1) data (w.heap.size + 1) w3 (HSD.out w3 H3.out.2).1.1 (by omega) (HSD.out w3 H3.out.2).2).mono ?_
    rintro e w9 ⟨rfl, hdn⟩
    have H9 := hid hdn
    clear hdn)
  go_loopw [16] (fun i wr => ∃ (k : Nat) (bs : List Int), k ≤ data.length + 40 ∧ i = .int .i64 k ∧ bs.length = data.length + 40 ∧ Own wr (w.heap.size + 1) bs ∧ Hid (Kept (fun k => k = w.heap.size + 1) w3 wr)) (fun i _ => data.length + 40 - (intOf i).toNat)
  case atStart =>
    obtain ⟨m, rfl⟩ := H9.out
    exact ⟨0, rm data, Nat.zero_le _, by go_num, by simp [rm], (HSD.out w3 H3.out.2).2, hid ((Kept.refl _ _).drewN m)⟩
  case round =>
    obtain ⟨k, bs, hk9, rfl, hbs, ho9, HK⟩ := hrel
    by_cases hlt : k < data.length + 40
    · have cd := ho9.cell k bs[k] (by simp [hbs, hlt])
      have fz := free_of_block (o := k) ho9
      have i2 : (k : Int) < ((data.length + 40 : Nat) : Int) := by omega
      have i3 : (k : Int) < (data.length : Int) + 40 := by omega
      have HO := hid ho9
      clear ho9
      go_wp2
      go_roundw
      case rel => exact ⟨k + 1, bs.set k 99, by omega, by go_num, by simp [hbs], HO.out.set k 99, hid (HK.out.setCell (p := ⟨w.heap.size + 1, k, none⟩) (fun _ => rfl) _)⟩
      case measure => simp [intOf]; omega
    · have i2 : ¬ (k : Int) < ((data.length + 40 : Nat) : Int) := by omega
      have i3 : ¬ (k : Int) < (data.length : Int) + 40 := by omega
      have HO := hid ho9
      clear ho9
      go_wp2
      go_ret
      obtain ⟨k1, k2, k3⟩ := tk_hand HX.out.2.2.2.2.2.1 name data
      exact ⟨rfl, t2, R3, (handP D name data).2, PG.wipe HX.out.1 H1.out.2.1 HS.out.1 HK.out (by omega) hz1, (HX.out.2.2.2.2.1.handP name data).mono (by omega), k1, by rw [k2]; exact hf1, by rw [k3]; exact hf2⟩

end Go.Proofs.YtlmompdfombgeaaGreat

namespace Go.Proofs.YtlmompdfombgeaaGreat
open Go.RowKit Go.MapKept

set_option maxRecDepth 100000 in
set_option maxHeartbeats 6400000 in
theorem st_Other {w0 w : World} {d r : Nat} {t : Wt} {R : Rt} {D : Dq} {n : Nat} (x : Sp) (p : SPre w0 w d r t R D n x) (hk : x.kind < 1 ∨ 11 < x.kind) :
    Calls Tryz.prog 14 #[.pointer (some ⟨d, 0, none⟩), .pointer (some ⟨r, 0, none⟩), .agg #[.int .i64 x.kind, .string x.name, .string x.to, x.dv, .int .i64 x.n, x.sv, x.rv, .int .i64 x.pn, x.fv]] w (SPost w d r t R D n) := by
  obtain ⟨hx, hw0, hlo, hsm, hpr, hwd, hnn, htk, hf1, hf2⟩ := p
  obtain ⟨kind, name, tto, dv, data, nn, sv, gs, rv, gr, pn, fv, pk⟩ := x
  obtain ⟨-, -, hpn, hn1, hn2, hdt, hoct, hfs, -, hfr, -, hpk⟩ := hx
  obtain ⟨m1, m2, m3, m4, m5, m6, m7⟩ := hsm
  obtain ⟨a1, q1, e1, d1, d2⟩ := hdt.shape
  obtain ⟨a2, q2, e2, d3, d4⟩ := hfs.shape
  obtain ⟨a3, q3, e3, d5, d6⟩ := hfr.shape
  obtain ⟨a4, q4, e4, d7, d8⟩ := hpk.1.shape
  dsimp only at e1 e2 e3 e4 hn1 hn2 hk d1 d2 d3 d4 d5 d6 d7 d8 hdt hfs hfr hpk m1 m2 m3 m4 m5 m6 m7 hpn
  subst e1 e2 e3 e4
  dsimp only
  have g1 : ¬ kind = 1 := by omega
  have g2 : ¬ kind = 2 := by omega
  have g3 : ¬ kind = 3 := by omega
  have g4 : ¬ kind = 4 := by omega
  have g5 : ¬ kind = 5 := by omega
  have g6 : ¬ kind = 6 := by omega
  have g7 : ¬ kind = 7 := by omega
  have g8 : ¬ kind = 8 := by omega
  have g9 : ¬ kind = 9 := by omega
  have g10 : ¬ kind = 10 := by omega
  have g11 : ¬ kind = 11 := by omega
  clear hk
  have hdt' : Rf w0 1 (.slice a1 data.length q1) data.length (B8 data) := by
    rw [← flat_u8]
    exact hdt
  have hsl0 := hdt'.sl
  have hw0z := hw0.size
  have hPl := hpr.lt
  have HX := hid (And.intro hpr (And.intro hw0 (And.intro hsl0 (And.intro hlo (And.intro hwd (And.intro htk (And.intro hf1 hf2)))))))
  have HPL := hid hPl
  clear hpr hw0 hsl0 hfs hfr hpk hdt hdt' hoct m7 hlo hwd htk hPl
  have hbx : Below w.heap.size w (w.alloc (.cells #[.int .i64 kind, .string name, .string tto, .slice a1 data.length q1, .int .i64 nn, .slice a2 gs.length q2, .slice a3 gr.length q3, .int .i64 pn, .slice a4 pk.length q4] 43)) := (Below.refl _ _).alloc (Nat.le_refl _) _
  have HBX := hid hbx
  clear hbx
  go_enter Tryz.func14, Tryz.ntmps14
  go_wp2_with (
    go_at_call 51
    refine (roomy_any (.slice a1 data.length q1) data _ ((HX.out.2.2.1.1.below HX.out.2.1).below HBX.out) (by omega)).mono ?_
    rintro e w1 ⟨rfl, ho1, hb1⟩
    have es := (show (w.alloc (.cells #[.int .i64 kind, .string name, .string tto, .slice a1 data.length q1, .int .i64 nn, .slice a2 gs.length q2, .slice a3 gr.length q3, .int .i64 pn, .slice a4 pk.length q4] 43)).heap.size = w.heap.size + 1 from by simp)
    rw [es] at ho1 hb1 ⊢
    have hbw1 : Below w.heap.size w w1 := HBX.out.trans (hb1.mono (by omega))
    have x0 : w1.cell? ⟨w.heap.size, 0, none⟩ = some (.int .i64 kind) := (hb1.cell (by simp)).trans (by simp [go_sem])
    have x1 : w1.cell? ⟨w.heap.size, 1, none⟩ = some (.string name) := (hb1.cell (by simp)).trans (by simp [go_sem])
    have x2 : w1.cell? ⟨w.heap.size, 2, none⟩ = some (.string tto) := (hb1.cell (by simp)).trans (by simp [go_sem])
    have x3 : w1.cell? ⟨w.heap.size, 3, none⟩ = some (.slice a1 data.length q1) := (hb1.cell (by simp)).trans (by simp [go_sem])
    have x4 : w1.cell? ⟨w.heap.size, 4, none⟩ = some (.int .i64 nn) := (hb1.cell (by simp)).trans (by simp [go_sem])
    have hz1 : w.heap.size + 1 < w1.heap.size := hp_lt ho1
    have H1 := hid (And.intro ho1 (And.intro hbw1 (HX.out.1.below hbw1)))
    clear ho1 hb1 es hbw1)
  have hbd1 : Below w1.heap.size w1 w1.drew := ⟨rfl, rfl, rfl, Nat.le_refl _, fun _ _ => rfl⟩
  have HPD := hid H1.out.2.2
  have HCX := hid (show ∀ W, Kept (Pft d r t R D) w1 W → W.cell? ⟨w.heap.size, 1, none⟩ = some (.string name) ∧ W.cell? ⟨w.heap.size, 2, none⟩ = some (.string tto) ∧ W.cell? ⟨w.heap.size, 3, none⟩ = some (.slice a1 data.length q1) ∧ W.cell? ⟨w.heap.size, 4, none⟩ = some (.int .i64 nn) from fun W hk => by
    have hn : ¬ Pft d r t R D w.heap.size := fun e => by have := HPL.out _ e; omega
    exact ⟨hk.cell x1 hn, hk.cell x2 hn, hk.cell x3 hn, hk.cell x4 hn⟩)
  have HK1 := hid (Kept.refl (Pft d r t R D) w1)
  have HSD := hid (show ∀ W, Kept (Pft d r t R D) w1 W → Sn W (.slice a1 data.length q1) data ∧ Own W (w.heap.size + 1) (rm data) from fun W hk => by
    have hb0 : Below w0.heap.size w0 W := (HX.out.2.1.trans (H1.out.2.1.mono hw0z)).trans (hk.below (Nat.le_trans hw0z H1.out.2.1.size) (fun k hk e => by have := HX.out.2.2.2.1 k e; omega))
    exact ⟨HX.out.2.2.1.1.below hb0 |> fun h => ⟨h, HX.out.2.2.1.2⟩, hp_kept H1.out.1 hk (fun e => by have := HPL.out _ e; omega)⟩)
  clear hbd1
  have H3 := hid (And.intro (PG.still H1.out.2.2 (Below.refl _ w1)) (Kept.refl (Pft d r t R D) w1))
  have HS := hid (show PG d r w1 t R D w1 t R D D ∧ Kept (Pft d r t R D) w1 w1 from ⟨⟨H3.out.1.pr, H3.out.2, fun k e => H3.out.1.ft k e⟩, H3.out.2⟩)
  go_wp2_with (
    go_at_call 68
    refine (left_any (.slice a1 data.length q1) data (w.heap.size + 1) w1 (HSD.out w1 H3.out.2).1.1 (by omega) (HSD.out w1 H3.out.2).2).mono ?_
    rintro e w9 ⟨rfl, hdn⟩
    have H9 := hid hdn
    clear hdn)
  go_loopw [16] (fun i wr => ∃ (k : Nat) (bs : List Int), k ≤ data.length + 40 ∧ i = .int .i64 k ∧ bs.length = data.length + 40 ∧ Own wr (w.heap.size + 1) bs ∧ Hid (Kept (fun k => k = w.heap.size + 1) w1 wr)) (fun i _ => data.length + 40 - (intOf i).toNat)
  case atStart =>
    obtain ⟨m, rfl⟩ := H9.out
    exact ⟨0, rm data, Nat.zero_le _, by go_num, by simp [rm], (HSD.out w1 H3.out.2).2, hid ((Kept.refl _ _).drewN m)⟩
  case round =>
    obtain ⟨k, bs, hk9, rfl, hbs, ho9, HK⟩ := hrel
    by_cases hlt : k < data.length + 40
    · have cd := ho9.cell k bs[k] (by simp [hbs, hlt])
      have fz := free_of_block (o := k) ho9
      have i2 : (k : Int) < ((data.length + 40 : Nat) : Int) := by omega
      have i3 : (k : Int) < (data.length : Int) + 40 := by omega
      have HO := hid ho9
      clear ho9
      go_wp2
      go_roundw
      case rel => exact ⟨k + 1, bs.set k 99, by omega, by go_num, by simp [hbs], HO.out.set k 99, hid (HK.out.setCell (p := ⟨w.heap.size + 1, k, none⟩) (fun _ => rfl) _)⟩
      case measure => simp [intOf]; omega
    · have i2 : ¬ (k : Int) < ((data.length + 40 : Nat) : Int) := by omega
      have i3 : ¬ (k : Int) < (data.length : Int) + 40 := by omega
      have HO := hid ho9
      clear ho9
      go_wp2
      go_ret
      exact ⟨rfl, t, R, D, PG.wipe HX.out.1 H1.out.2.1 HS.out.1 HK.out (by omega) hz1, HX.out.2.2.2.2.1.mono (by omega), HX.out.2.2.2.2.2.1, hf1, hf2⟩

end Go.Proofs.YtlmompdfombgeaaGreat

namespace Go.Proofs.YtlmompdfombgeaaGreat
open Go.RowKit Go.MapKept

theorem st_any {w0 w : World} {d r : Nat} {t : Wt} {R : Rt} {D : Dq} {n : Nat} (x : Sp) (p : SPre w0 w d r t R D n x) :
    Calls Tryz.prog 14 #[.pointer (some ⟨d, 0, none⟩), .pointer (some ⟨r, 0, none⟩), .agg #[.int .i64 x.kind, .string x.name, .string x.to, x.dv, .int .i64 x.n, x.sv, x.rv, .int .i64 x.pn, x.fv]] w (SPost w d r t R D n) := by
  by_cases k1 : x.kind = 1
  · exact st_Create x p k1
  by_cases k2 : x.kind = 2
  · exact st_Append x p k2
  by_cases k3 : x.kind = 3
  · exact st_Cut x p k3
  by_cases k4 : x.kind = 4
  · exact st_Sync x p k4
  by_cases k5 : x.kind = 5
  · exact st_Names x p k5
  by_cases k6 : x.kind = 6
  · exact st_Rename x p k6
  by_cases k7 : x.kind = 7
  · exact st_Remove x p k7
  by_cases k8 : x.kind = 8
  · exact st_Read x p k8
  by_cases k9 : x.kind = 9
  · exact st_Plan x p k9
  by_cases k10 : x.kind = 10
  · exact st_Crash x p k10
  by_cases k11 : x.kind = 11
  · exact st_Hand x p k11
  · exact st_Other x p (by omega)

/-- Of a new disk of the document's. -/
def newRt : Rt := ⟨.slice none 0 0, .slice none 0 0, .slice none 0 0, .slice none 0 0, .slice none 0 0, fun _ => .slice none 0 0, fun _ => .slice none 0 0, fun _ => [], [], fun _ => False, fun _ => False⟩

theorem new_rd {w : World} {r : Nat} {room limit : Int} (h : RefZ w r room limit) : RdT w r newRt (newD room limit) :=
  ⟨h, owns_nil _ _ _ _, rf_nil _ 2, ⟨List.Perm.refl _, List.Pairwise.nil⟩, owns_nil _ _ _ _, fun f hf => (by cases hf), fun f hf => (by cases hf), fun f hf => (by cases hf), fun f hf => (by cases hf), fun f hf => (by cases hf), rf_nil _ 2, rf_nil _ 2, fun k e => (by simp [newRt, Value.ownBlock] at e), fun k e => (by simp [newRt, Value.ownBlock] at e), fun k e => (by simp [newRt, Value.ownBlock] at e), fun k e => (by simp [newRt, Value.ownBlock] at e), fun k e => (by simp [newRt, Value.ownBlock] at e), fun f hf => (by cases hf), fun f hf => (by cases hf), fun f hf => (by cases hf), fun k e => e.elim, fun e => e.elim, fun e => e.elim, fun k e => (by rcases e with e | e <;> exact e.elim)⟩

/-- A pair of disks that a script is played on. -/
structure PairS (w0 w : World) (d r : Nat) (t : Wt) (R : Rt) (D : Dq) (n : Nat) : Prop where
  pr : Pr w d r t R D D
  wd : WD n D
  tk : TOK D
  f1 : D.fs.length ≤ 300
  f2 : D.fr.length ≤ 300
  lo : ∀ k, Pft d r t R D k → w0.heap.size ≤ k

section
variable {w0 w w' : World} {d r : Nat} {t : Wt} {R : Rt} {D : Dq} {n : Nat}

theorem PairS.pre (h : PairS w0 w d r t R D n) {x : Sp} (hx : x.ok w0) (hb : Below w0.heap.size w0 w) (hs : x.small) (hn : n ≤ 80000) : SPre w0 w d r t R D n x := ⟨hx, hb, h.lo, hs, h.pr, h.wd, hn, h.tk, h.f1, h.f2⟩

theorem PairS.kept {S : Nat → Prop} (h : PairS w0 w d r t R D n) (hk : Kept S w w') (hS : ∀ k, Pft d r t R D k → ¬ S k) : PairS w0 w' d r t R D n := ⟨h.pr.kept hk hS, h.wd, h.tk, h.f1, h.f2, h.lo⟩

theorem PairS.below (h : PairS w0 w d r t R D n) (hb : Below w.heap.size w w') : PairS w0 w' d r t R D n := h.kept (Kept.ofBelow hb) fun _ _ e => e

theorem PairS.mono {m : Nat} (h : PairS w0 w d r t R D n) (hm : n ≤ m) : PairS w0 w d r t R D m := ⟨h.pr, h.wd.mono hm, h.tk, h.f1, h.f2, h.lo⟩

/-- Behind a step. -/
theorem SPost.pair {e : Ending} (h : PairS w0 w d r t R D n) (hb : Below w0.heap.size w0 w) (p : SPost w d r t R D n e w') : e = .returned (.bool true) ∧ ∃ t' R' D', PairS w0 w' d r t' R' D' (n + 2) ∧ Kept (Pft d r t R D) w w' ∧ (∀ k, Pft d r t' R' D' k → Pft d r t R D k ∨ w.heap.size ≤ k) ∧ Below w0.heap.size w0 w' := by
  obtain ⟨rfl, t', R', D', pg, h1, h2, h3, h4⟩ := p
  refine ⟨rfl, t', R', D', ⟨pg.pr, h1, h2, h3, h4, fun k e => ?_⟩, pg.kp, pg.ft, hb.trans (pg.kp.below hb.size (fun k hk e => by have := h.lo k e; omega))⟩
  rcases pg.ft k e with e | e
  · exact h.lo k e
  · exact Nat.le_trans hb.size e

/-- Both new. -/
theorem new_pair {w1 w2 : World} {room limit : Int} {L N F : Nat} {d : Nat} (g : 0 ≤ room ∧ room ≤ 4194304 ∧ 0 ≤ limit ∧ limit ≤ 512) (hz : Zero d w1 d L N F room limit 0 0 0 0 0) (hr : RefZ w2 r room limit) (hb : Below w1.heap.size w1 w2) (hrl : w1.heap.size ≤ r) (hd : w0.heap.size ≤ d) : ∃ t R, PairS w0 w2 d r t R (newD room limit) 0 ∧ ∀ k, Pft d r t R (newD room limit) k → d ≤ k ∧ (k = r ∨ k < w1.heap.size) := by
  obtain ⟨t, hdk, hlo⟩ := zero_dk hz
  have hlt := hdk.lt
  have hdl : d < w1.heap.size := hlt d (.inl rfl)
  refine ⟨t, newRt, ⟨⟨hdk.below hb, new_rd hr, fun k e e2 => ?_⟩, newD_WD room limit g.1 g.2.1 g.2.2.1 g.2.2.2, TOK.nil rfl, Nat.zero_le _, Nat.zero_le _, fun k e => ?_⟩, fun k e => ?_⟩
  · rcases e2 with e2 | e2 | e2
    · have := hlt k e; omega
    · exact e2
    · exact e2
  · rcases e with e | e | e | e
    · exact Nat.le_trans hd (hlo k e)
    · omega
    · exact e.elim
    · exact e.elim
  · rcases e with e | e | e | e
    · exact ⟨hlo k e, .inr (hlt k e)⟩
    · exact ⟨by omega, .inl e⟩
    · exact e.elim
    · exact e.elim

end

end Go.Proofs.YtlmompdfombgeaaGreat
