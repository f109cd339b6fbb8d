import Derived.Test.YtlmompdfombgeaaGreatK33
namespace Go.Proofs.YtlmompdfombgeaaGreat
open Go.RowKit Go.MapKept

set_option maxRecDepth 100000 in
set_option maxHeartbeats 6400000 in
theorem st_Sync {w0 w : World} {d r : Nat} {t : Wt} {R : Rt} {D : Dq} {n : Nat} (x : Sp) (p : SPre w0 w d r t R D n x) (hk : x.kind = 4) :
    Calls Tryz.prog 14 #[.pointer (some ⟨d, 0, none⟩), .pointer (some ⟨r, 0, none⟩), .agg #[.int .i64 x.kind, .string x.name, .string x.to, x.dv, .int .i64 x.n, x.sv, x.rv, .int .i64 x.pn, x.fv]] w (SPost w d r t R D n) := by
  obtain ⟨hx, hw0, hlo, hsm, hpr, hwd, hnn, htk, hf1, hf2⟩ := p
  obtain ⟨kind, name, tto, dv, data, nn, sv, gs, rv, gr, pn, fv, pk⟩ := x
  obtain ⟨-, -, hpn, hn1, hn2, hdt, hoct, hfs, -, hfr, -, hpk⟩ := hx
  obtain ⟨m1, m2, m3, m4, m5, m6, m7⟩ := hsm
  obtain ⟨a1, q1, e1, d1, d2⟩ := hdt.shape
  obtain ⟨a2, q2, e2, d3, d4⟩ := hfs.shape
  obtain ⟨a3, q3, e3, d5, d6⟩ := hfr.shape
  obtain ⟨a4, q4, e4, d7, d8⟩ := hpk.1.shape
  dsimp only at e1 e2 e3 e4 hn1 hn2 hk d1 d2 d3 d4 d5 d6 d7 d8 hdt hfs hfr hpk m1 m2 m3 m4 m5 m6 m7 hpn
  subst e1 e2 e3 e4
  dsimp only
  obtain rfl : kind = 4 := hk
  have hdt' : Rf w0 1 (.slice a1 data.length q1) data.length (B8 data) := by
    rw [← flat_u8]
    exact hdt
  have hsl0 := hdt'.sl
  have hw0z := hw0.size
  have hPl := hpr.lt
  have HX := hid (And.intro hpr (And.intro hw0 (And.intro hsl0 (And.intro hlo (And.intro hwd (And.intro htk (And.intro hf1 hf2)))))))
  have HPL := hid hPl
  clear hpr hw0 hsl0 hfs hfr hpk hdt hdt' hoct m7 hlo hwd htk hPl
  have hbx : Below w.heap.size w (w.alloc (.cells #[.int .i64 4, .string name, .string tto, .slice a1 data.length q1, .int .i64 nn, .slice a2 gs.length q2, .slice a3 gr.length q3, .int .i64 pn, .slice a4 pk.length q4] 43)) := (Below.refl _ _).alloc (Nat.le_refl _) _
  have HBX := hid hbx
  clear hbx
  obtain ⟨res, hres⟩ : ∃ res : Int, res = (syncP D name).1 := ⟨_, rfl⟩
  have HRES := hid hres
  clear hres
  go_enter Tryz.func14, Tryz.ntmps14
  go_wp2_with (
    go_at_call 51
    refine (roomy_any (.slice a1 data.length q1) data _ ((HX.out.2.2.1.1.below HX.out.2.1).below HBX.out) (by omega)).mono ?_
    rintro e w1 ⟨rfl, ho1, hb1⟩
    have es := (show (w.alloc (.cells #[.int .i64 4, .string name, .string tto, .slice a1 data.length q1, .int .i64 nn, .slice a2 gs.length q2, .slice a3 gr.length q3, .int .i64 pn, .slice a4 pk.length q4] 43)).heap.size = w.heap.size + 1 from by simp)
    rw [es] at ho1 hb1 ⊢
    have hbw1 : Below w.heap.size w w1 := HBX.out.trans (hb1.mono (by omega))
    have x0 : w1.cell? ⟨w.heap.size, 0, none⟩ = some (.int .i64 4) := (hb1.cell (by simp)).trans (by simp [go_sem])
    have x1 : w1.cell? ⟨w.heap.size, 1, none⟩ = some (.string name) := (hb1.cell (by simp)).trans (by simp [go_sem])
    have x2 : w1.cell? ⟨w.heap.size, 2, none⟩ = some (.string tto) := (hb1.cell (by simp)).trans (by simp [go_sem])
    have x3 : w1.cell? ⟨w.heap.size, 3, none⟩ = some (.slice a1 data.length q1) := (hb1.cell (by simp)).trans (by simp [go_sem])
    have x4 : w1.cell? ⟨w.heap.size, 4, none⟩ = some (.int .i64 nn) := (hb1.cell (by simp)).trans (by simp [go_sem])
    have hz1 : w.heap.size + 1 < w1.heap.size := hp_lt ho1
    have H1 := hid (And.intro ho1 (And.intro hbw1 (HX.out.1.below hbw1)))
    clear ho1 hb1 es hbw1)
  go_wp2_with fail
  have hbd1 : Below w1.heap.size w1 w1.drew := ⟨rfl, rfl, rfl, Nat.le_refl _, fun _ _ => rfl⟩
  have HPD := hid (H1.out.2.2.below hbd1)
  have HCX := hid (show ∀ W, Kept (Pft d r t R D) w1 W → W.cell? ⟨w.heap.size, 1, none⟩ = some (.string name) ∧ W.cell? ⟨w.heap.size, 2, none⟩ = some (.string tto) ∧ W.cell? ⟨w.heap.size, 3, none⟩ = some (.slice a1 data.length q1) ∧ W.cell? ⟨w.heap.size, 4, none⟩ = some (.int .i64 nn) from fun W hk => by
    have hn : ¬ Pft d r t R D w.heap.size := fun e => by have := HPL.out _ e; omega
    exact ⟨hk.cell x1 hn, hk.cell x2 hn, hk.cell x3 hn, hk.cell x4 hn⟩)
  have HK1 := hid (show Kept (Pft d r t R D) w1 w1.drew from (Kept.ofBelow hbd1).mono (fun _ _ e => e.elim))
  have HSD := hid (show ∀ W, Kept (Pft d r t R D) w1 W → Sn W (.slice a1 data.length q1) data ∧ Own W (w.heap.size + 1) (rm data) from fun W hk => by
    have hb0 : Below w0.heap.size w0 W := (HX.out.2.1.trans (H1.out.2.1.mono hw0z)).trans (hk.below (Nat.le_trans hw0z H1.out.2.1.size) (fun k hk e => by have := HX.out.2.2.2.1 k e; omega))
    exact ⟨HX.out.2.2.1.1.below hb0 |> fun h => ⟨h, HX.out.2.2.1.2⟩, hp_kept H1.out.1 hk (fun e => by have := HPL.out _ e; omega)⟩)
  clear hbd1
  go_region_held (fun w' => w'.cell? ⟨w.heap.size, 1, none⟩ = some (.string name) ∧ w'.cell? ⟨w.heap.size, 2, none⟩ = some (.string tto) ∧ w'.cell? ⟨w.heap.size, 3, none⟩ = some (.slice a1 data.length q1) ∧ w'.cell? ⟨w.heap.size, 4, none⟩ = some (.int .i64 nn)) (first | exact HCX.out _ H3.out.2 | exact HCX.out _ H2.out.2 | exact HCX.out _ HK1.out) (first
    | (go_at_call 23
       refine (sync_dk HPD.out.a HX.out.2.2.2.2.1 (by omega) name hn1).mono ?_
       rintro e w2 ⟨rfl, t2, g2⟩
       rw [← HRES.out]
       have p2 := HPD.out.prog g2
       have hk2 : Kept (Pft d r t R D) w1 w2 := HK1.out.trans p2.kp (fun _ _ e => e)
       obtain ⟨t1', t2', t3', t4'⟩ := HCX.out w2 hk2
       have H2 := hid (And.intro p2 hk2)
       clear g2 p2 hk2)
    | (go_at_call 55
       refine (sync_r H2.out.1.pr.b HX.out.2.2.2.2.1 (by omega) HX.out.2.2.2.2.2.1 HX.out.2.2.2.2.2.2.1 name hn1).mono ?_
       rintro e w3 ⟨rfl, R3, g3⟩
       rw [← HRES.out]
       have p3 := H2.out.1.trans (H2.out.1.pr.doc g3)
       have hk3 : Kept (Pft d r t R D) w1 w3 := HK1.out.trans p3.kp (fun _ _ e => e)
       obtain ⟨u1', u2', u3', u4'⟩ := HCX.out w3 hk3
       have H3 := hid (And.intro p3 hk3)
       clear g3 p3 hk3))
  have HS := hid (show PG d r w1 t R D w3 t2 R3 (syncP D name).2 (syncP D name).2 ∧ Kept (Pft d r t R D) w1 w3 from ⟨⟨H3.out.1.pr, H3.out.2, fun k e => H3.out.1.ft k e⟩, H3.out.2⟩)
  go_wp2_with (
    go_at_call 68
    refine (left_any (.slice a1 data.length q1) data (w.heap.size + 1) w3 (HSD.out w3 H3.out.2).1.1 (by omega) (HSD.out w3 H3.out.2).2).mono ?_
    rintro e w9 ⟨rfl, hdn⟩
    have H9 := hid hdn
    clear hdn)
  go_loopw [16] (fun i wr => ∃ (k : Nat) (bs : List Int), k ≤ data.length + 40 ∧ i = .int .i64 k ∧ bs.length = data.length + 40 ∧ Own wr (w.heap.size + 1) bs ∧ Hid (Kept (fun k => k = w.heap.size + 1) w3 wr)) (fun i _ => data.length + 40 - (intOf i).toNat)
  case atStart =>
    obtain ⟨m, rfl⟩ := H9.out
    exact ⟨0, rm data, Nat.zero_le _, by go_num, by simp [rm], (HSD.out w3 H3.out.2).2, hid ((Kept.refl _ _).drewN m)⟩
  case round =>
    obtain ⟨k, bs, hk9, rfl, hbs, ho9, HK⟩ := hrel
    by_cases hlt : k < data.length + 40
    · have cd := ho9.cell k bs[k] (by simp [hbs, hlt])
      have fz := free_of_block (o := k) ho9
      have i2 : (k : Int) < ((data.length + 40 : Nat) : Int) := by omega
      have i3 : (k : Int) < (data.length : Int) + 40 := by omega
      have HO := hid ho9
      clear ho9
      go_wp2
      go_roundw
      case rel => exact ⟨k + 1, bs.set k 99, by omega, by go_num, by simp [hbs], HO.out.set k 99, hid (HK.out.setCell (p := ⟨w.heap.size + 1, k, none⟩) (fun _ => rfl) _)⟩
      case measure => simp [intOf]; omega
    · have i2 : ¬ (k : Int) < ((data.length + 40 : Nat) : Int) := by omega
      have i3 : ¬ (k : Int) < (data.length : Int) + 40 := by omega
      have HO := hid ho9
      clear ho9
      go_wp2
      go_ret
      obtain ⟨k1, k2, k3⟩ := tk_sync HX.out.2.2.2.2.2.1 name
      exact ⟨rfl, t2, R3, (syncP D name).2, PG.wipe HX.out.1 H1.out.2.1 HS.out.1 HK.out (by omega) hz1, HX.out.2.2.2.2.1.syncP name, k1, by rw [k2]; exact hf1, by rw [k3]; exact hf2⟩

end Go.Proofs.YtlmompdfombgeaaGreat

namespace Go.Proofs.YtlmompdfombgeaaGreat
open Go.RowKit Go.MapKept

set_option maxRecDepth 100000 in
set_option maxHeartbeats 6400000 in
theorem st_Names {w0 w : World} {d r : Nat} {t : Wt} {R : Rt} {D : Dq} {n : Nat} (x : Sp) (p : SPre w0 w d r t R D n x) (hk : x.kind = 5) :
    Calls Tryz.prog 14 #[.pointer (some ⟨d, 0, none⟩), .pointer (some ⟨r, 0, none⟩), .agg #[.int .i64 x.kind, .string x.name, .string x.to, x.dv, .int .i64 x.n, x.sv, x.rv, .int .i64 x.pn, x.fv]] w (SPost w d r t R D n) := by
  obtain ⟨hx, hw0, hlo, hsm, hpr, hwd, hnn, htk, hf1, hf2⟩ := p
  obtain ⟨kind, name, tto, dv, data, nn, sv, gs, rv, gr, pn, fv, pk⟩ := x
  obtain ⟨-, -, hpn, hn1, hn2, hdt, hoct, hfs, -, hfr, -, hpk⟩ := hx
  obtain ⟨m1, m2, m3, m4, m5, m6, m7⟩ := hsm
  obtain ⟨a1, q1, e1, d1, d2⟩ := hdt.shape
  obtain ⟨a2, q2, e2, d3, d4⟩ := hfs.shape
  obtain ⟨a3, q3, e3, d5, d6⟩ := hfr.shape
  obtain ⟨a4, q4, e4, d7, d8⟩ := hpk.1.shape
  dsimp only at e1 e2 e3 e4 hn1 hn2 hk d1 d2 d3 d4 d5 d6 d7 d8 hdt hfs hfr hpk m1 m2 m3 m4 m5 m6 m7 hpn
  subst e1 e2 e3 e4
  dsimp only
  obtain rfl : kind = 5 := hk
  have hdt' : Rf w0 1 (.slice a1 data.length q1) data.length (B8 data) := by
    rw [← flat_u8]
    exact hdt
  have hsl0 := hdt'.sl
  have hw0z := hw0.size
  have hPl := hpr.lt
  have HX := hid (And.intro hpr (And.intro hw0 (And.intro hsl0 (And.intro hlo (And.intro hwd (And.intro htk (And.intro hf1 hf2)))))))
  have HPL := hid hPl
  clear hpr hw0 hsl0 hfs hfr hpk hdt hdt' hoct m7 hlo hwd htk hPl
  have hbx : Below w.heap.size w (w.alloc (.cells #[.int .i64 5, .string name, .string tto, .slice a1 data.length q1, .int .i64 nn, .slice a2 gs.length q2, .slice a3 gr.length q3, .int .i64 pn, .slice a4 pk.length q4] 43)) := (Below.refl _ _).alloc (Nat.le_refl _) _
  have HBX := hid hbx
  clear hbx
  obtain ⟨res, hres⟩ : ∃ res : Int, res = (syncNP D).1 := ⟨_, rfl⟩
  have HRES := hid hres
  clear hres
  go_enter Tryz.func14, Tryz.ntmps14
  go_wp2_with (
    go_at_call 51
    refine (roomy_any (.slice a1 data.length q1) data _ ((HX.out.2.2.1.1.below HX.out.2.1).below HBX.out) (by omega)).mono ?_
    rintro e w1 ⟨rfl, ho1, hb1⟩
    have es := (show (w.alloc (.cells #[.int .i64 5, .string name, .string tto, .slice a1 data.length q1, .int .i64 nn, .slice a2 gs.length q2, .slice a3 gr.length q3, .int .i64 pn, .slice a4 pk.length q4] 43)).heap.size = w.heap.size + 1 from by simp)
    rw [es] at ho1 hb1 ⊢
    have hbw1 : Below w.heap.size w w1 := HBX.out.trans (hb1.mono (by omega))
    have x0 : w1.cell? ⟨w.heap.size, 0, none⟩ = some (.int .i64 5) := (hb1.cell (by simp)).trans (by simp [go_sem])
    have x1 : w1.cell? ⟨w.heap.size, 1, none⟩ = some (.string name) := (hb1.cell (by simp)).trans (by simp [go_sem])
    have x2 : w1.cell? ⟨w.heap.size, 2, none⟩ = some (.string tto) := (hb1.cell (by simp)).trans (by simp [go_sem])
    have x3 : w1.cell? ⟨w.heap.size, 3, none⟩ = some (.slice a1 data.length q1) := (hb1.cell (by simp)).trans (by simp [go_sem])
    have x4 : w1.cell? ⟨w.heap.size, 4, none⟩ = some (.int .i64 nn) := (hb1.cell (by simp)).trans (by simp [go_sem])
    have hz1 : w.heap.size + 1 < w1.heap.size := hp_lt ho1
    have H1 := hid (And.intro ho1 (And.intro hbw1 (HX.out.1.below hbw1)))
    clear ho1 hb1 es hbw1)
  have hbd1 : Below w1.heap.size w1 w1.drew := ⟨rfl, rfl, rfl, Nat.le_refl _, fun _ _ => rfl⟩
  have HPD := hid H1.out.2.2
  have HCX := hid (show ∀ W, Kept (Pft d r t R D) w1 W → W.cell? ⟨w.heap.size, 1, none⟩ = some (.string name) ∧ W.cell? ⟨w.heap.size, 2, none⟩ = some (.string tto) ∧ W.cell? ⟨w.heap.size, 3, none⟩ = some (.slice a1 data.length q1) ∧ W.cell? ⟨w.heap.size, 4, none⟩ = some (.int .i64 nn) from fun W hk => by
    have hn : ¬ Pft d r t R D w.heap.size := fun e => by have := HPL.out _ e; omega
    exact ⟨hk.cell x1 hn, hk.cell x2 hn, hk.cell x3 hn, hk.cell x4 hn⟩)
  have HK1 := hid (Kept.refl (Pft d r t R D) w1)
  have HSD := hid (show ∀ W, Kept (Pft d r t R D) w1 W → Sn W (.slice a1 data.length q1) data ∧ Own W (w.heap.size + 1) (rm data) from fun W hk => by
    have hb0 : Below w0.heap.size w0 W := (HX.out.2.1.trans (H1.out.2.1.mono hw0z)).trans (hk.below (Nat.le_trans hw0z H1.out.2.1.size) (fun k hk e => by have := HX.out.2.2.2.1 k e; omega))
    exact ⟨HX.out.2.2.1.1.below hb0 |> fun h => ⟨h, HX.out.2.2.1.2⟩, hp_kept H1.out.1 hk (fun e => by have := HPL.out _ e; omega)⟩)
  clear hbd1
  go_wp2_with (first
    | (go_at_call 24
       refine (syncN_dk HPD.out.a HX.out.2.2.2.2.1 (by omega)).mono ?_
       rintro e w2 ⟨rfl, t2, g2⟩
       rw [← HRES.out]
       have p2 := HPD.out.prog g2
       have hk2 : Kept (Pft d r t R D) w1 w2 := HK1.out.trans p2.kp (fun _ _ e => e)
       obtain ⟨t1', t2', t3', t4'⟩ := HCX.out w2 hk2
       have H2 := hid (And.intro p2 hk2)
       clear g2 p2 hk2)
    | (go_at_call 56
       refine (syncN_r H2.out.1.pr.b HX.out.2.2.2.2.1 (by omega) HX.out.2.2.2.2.2.1 HX.out.2.2.2.2.2.2.1).mono ?_
       rintro e w3 ⟨rfl, R3, g3⟩
       rw [← HRES.out]
       have p3 := H2.out.1.trans (H2.out.1.pr.doc g3)
       have hk3 : Kept (Pft d r t R D) w1 w3 := HK1.out.trans p3.kp (fun _ _ e => e)
       obtain ⟨u1', u2', u3', u4'⟩ := HCX.out w3 hk3
       have H3 := hid (And.intro p3 hk3)
       clear g3 p3 hk3))
  have HS := hid (show PG d r w1 t R D w3 t2 R3 (syncNP D).2 (syncNP D).2 ∧ Kept (Pft d r t R D) w1 w3 from ⟨⟨H3.out.1.pr, H3.out.2, fun k e => H3.out.1.ft k e⟩, H3.out.2⟩)
  go_wp2_with (
    go_at_call 68
    refine (left_any (.slice a1 data.length q1) data (w.heap.size + 1) w3 (HSD.out w3 H3.out.2).1.1 (by omega) (HSD.out w3 H3.out.2).2).mono ?_
    rintro e w9 ⟨rfl, hdn⟩
    have H9 := hid hdn
    clear hdn)
  go_loopw [16] (fun i wr => ∃ (k : Nat) (bs : List Int), k ≤ data.length + 40 ∧ i = .int .i64 k ∧ bs.length = data.length + 40 ∧ Own wr (w.heap.size + 1) bs ∧ Hid (Kept (fun k => k = w.heap.size + 1) w3 wr)) (fun i _ => data.length + 40 - (intOf i).toNat)
  case atStart =>
    obtain ⟨m, rfl⟩ := H9.out
    exact ⟨0, rm data, Nat.zero_le _, by go_num, by simp [rm], (HSD.out w3 H3.out.2).2, hid ((Kept.refl _ _).drewN m)⟩
  case round =>
    obtain ⟨k, bs, hk9, rfl, hbs, ho9, HK⟩ := hrel
    by_cases hlt : k < data.length + 40
    · have cd := ho9.cell k bs[k] (by simp [hbs, hlt])
      have fz := free_of_block (o := k) ho9
      have i2 : (k : Int) < ((data.length + 40 : Nat) : Int) := by omega
      have i3 : (k : Int) < (data.length : Int) + 40 := by omega
      have HO := hid ho9
      clear ho9
      go_wp2
      go_roundw
      case rel => exact ⟨k + 1, bs.set k 99, by omega, by go_num, by simp [hbs], HO.out.set k 99, hid (HK.out.setCell (p := ⟨w.heap.size + 1, k, none⟩) (fun _ => rfl) _)⟩
      case measure => simp [intOf]; omega
    · have i2 : ¬ (k : Int) < ((data.length + 40 : Nat) : Int) := by omega
      have i3 : ¬ (k : Int) < (data.length : Int) + 40 := by omega
      have HO := hid ho9
      clear ho9
      go_wp2
      go_ret
      obtain ⟨k1, k2, k3⟩ := tk_syncN HX.out.2.2.2.2.2.1
      exact ⟨rfl, t2, R3, (syncNP D).2, PG.wipe HX.out.1 H1.out.2.1 HS.out.1 HK.out (by omega) hz1, HX.out.2.2.2.2.1.syncNP, k1, by rw [k2]; exact hf1, by rw [k3]; exact hf2⟩

end Go.Proofs.YtlmompdfombgeaaGreat

namespace Go.Proofs.YtlmompdfombgeaaGreat
open Go.RowKit Go.MapKept

set_option maxRecDepth 100000 in
set_option maxHeartbeats 6400000 in
theorem st_Rename {w0 w : World} {d r : Nat} {t : Wt} {R : Rt} {D : Dq} {n : Nat} (x : Sp) (p : SPre w0 w d r t R D n x) (hk : x.kind = 6) :
    Calls Tryz.prog 14 #[.pointer (some ⟨d, 0, none⟩), .pointer (some ⟨r, 0, none⟩), .agg #[.int .i64 x.kind, .string x.name, .string x.to, x.dv, .int .i64 x.n, x.sv, x.rv, .int .i64 x.pn, x.fv]] w (SPost w d r t R D n) := by
  obtain ⟨hx, hw0, hlo, hsm, hpr, hwd, hnn, htk, hf1, hf2⟩ := p
  obtain ⟨kind, name, tto, dv, data, nn, sv, gs, rv, gr, pn, fv, pk⟩ := x
  obtain ⟨-, -, hpn, hn1, hn2, hdt, hoct, hfs, -, hfr, -, hpk⟩ := hx
  obtain ⟨m1, m2, m3, m4, m5, m6, m7⟩ := hsm
  obtain ⟨a1, q1, e1, d1, d2⟩ := hdt.shape
  obtain ⟨a2, q2, e2, d3, d4⟩ := hfs.shape
  obtain ⟨a3, q3, e3, d5, d6⟩ := hfr.shape
  obtain ⟨a4, q4, e4, d7, d8⟩ := hpk.1.shape
  dsimp only at e1 e2 e3 e4 hn1 hn2 hk d1 d2 d3 d4 d5 d6 d7 d8 hdt hfs hfr hpk m1 m2 m3 m4 m5 m6 m7 hpn
  subst e1 e2 e3 e4
  dsimp only
  obtain rfl : kind = 6 := hk
  have hdt' : Rf w0 1 (.slice a1 data.length q1) data.length (B8 data) := by
    rw [← flat_u8]
    exact hdt
  have hsl0 := hdt'.sl
  have hw0z := hw0.size
  have hPl := hpr.lt
  have HX := hid (And.intro hpr (And.intro hw0 (And.intro hsl0 (And.intro hlo (And.intro hwd (And.intro htk (And.intro hf1 hf2)))))))
  have HPL := hid hPl
  clear hpr hw0 hsl0 hfs hfr hpk hdt hdt' hoct m7 hlo hwd htk hPl
  have hbx : Below w.heap.size w (w.alloc (.cells #[.int .i64 6, .string name, .string tto, .slice a1 data.length q1, .int .i64 nn, .slice a2 gs.length q2, .slice a3 gr.length q3, .int .i64 pn, .slice a4 pk.length q4] 43)) := (Below.refl _ _).alloc (Nat.le_refl _) _
  have HBX := hid hbx
  clear hbx
  obtain ⟨res, hres⟩ : ∃ res : Int, res = (renP D name tto).1 := ⟨_, rfl⟩
  have HRES := hid hres
  clear hres
  go_enter Tryz.func14, Tryz.ntmps14
  go_wp2_with (
    go_at_call 51
    refine (roomy_any (.slice a1 data.length q1) data _ ((HX.out.2.2.1.1.below HX.out.2.1).below HBX.out) (by omega)).mono ?_
    rintro e w1 ⟨rfl, ho1, hb1⟩
    have es := (show (w.alloc (.cells #[.int .i64 6, .string name, .string tto, .slice a1 data.length q1, .int .i64 nn, .slice a2 gs.length q2, .slice a3 gr.length q3, .int .i64 pn, .slice a4 pk.length q4] 43)).heap.size = w.heap.size + 1 from by simp)
    rw [es] at ho1 hb1 ⊢
    have hbw1 : Below w.heap.size w w1 := HBX.out.trans (hb1.mono (by omega))
    have x0 : w1.cell? ⟨w.heap.size, 0, none⟩ = some (.int .i64 6) := (hb1.cell (by simp)).trans (by simp [go_sem])
    have x1 : w1.cell? ⟨w.heap.size, 1, none⟩ = some (.string name) := (hb1.cell (by simp)).trans (by simp [go_sem])
    have x2 : w1.cell? ⟨w.heap.size, 2, none⟩ = some (.string tto) := (hb1.cell (by simp)).trans (by simp [go_sem])
    have x3 : w1.cell? ⟨w.heap.size, 3, none⟩ = some (.slice a1 data.length q1) := (hb1.cell (by simp)).trans (by simp [go_sem])
    have x4 : w1.cell? ⟨w.heap.size, 4, none⟩ = some (.int .i64 nn) := (hb1.cell (by simp)).trans (by simp [go_sem])
    have hz1 : w.heap.size + 1 < w1.heap.size := hp_lt ho1
    have H1 := hid (And.intro ho1 (And.intro hbw1 (HX.out.1.below hbw1)))
    clear ho1 hb1 es hbw1)
  go_wp2_with fail
  have hbd1 : Below w1.heap.size w1 w1.drew := ⟨rfl, rfl, rfl, Nat.le_refl _, fun _ _ => rfl⟩
  have HPD := hid (H1.out.2.2.below hbd1)
  have HCX := hid (show ∀ W, Kept (Pft d r t R D) w1 W → W.cell? ⟨w.heap.size, 1, none⟩ = some (.string name) ∧ W.cell? ⟨w.heap.size, 2, none⟩ = some (.string tto) ∧ W.cell? ⟨w.heap.size, 3, none⟩ = some (.slice a1 data.length q1) ∧ W.cell? ⟨w.heap.size, 4, none⟩ = some (.int .i64 nn) from fun W hk => by
    have hn : ¬ Pft d r t R D w.heap.size := fun e => by have := HPL.out _ e; omega
    exact ⟨hk.cell x1 hn, hk.cell x2 hn, hk.cell x3 hn, hk.cell x4 hn⟩)
  have HK1 := hid (show Kept (Pft d r t R D) w1 w1.drew from (Kept.ofBelow hbd1).mono (fun _ _ e => e.elim))
  have HSD := hid (show ∀ W, Kept (Pft d r t R D) w1 W → Sn W (.slice a1 data.length q1) data ∧ Own W (w.heap.size + 1) (rm data) from fun W hk => by
    have hb0 : Below w0.heap.size w0 W := (HX.out.2.1.trans (H1.out.2.1.mono hw0z)).trans (hk.below (Nat.le_trans hw0z H1.out.2.1.size) (fun k hk e => by have := HX.out.2.2.2.1 k e; omega))
    exact ⟨HX.out.2.2.1.1.below hb0 |> fun h => ⟨h, HX.out.2.2.1.2⟩, hp_kept H1.out.1 hk (fun e => by have := HPL.out _ e; omega)⟩)
  clear hbd1
  go_region_held (fun w' => w'.cell? ⟨w.heap.size, 1, none⟩ = some (.string name) ∧ w'.cell? ⟨w.heap.size, 2, none⟩ = some (.string tto) ∧ w'.cell? ⟨w.heap.size, 3, none⟩ = some (.slice a1 data.length q1) ∧ w'.cell? ⟨w.heap.size, 4, none⟩ = some (.int .i64 nn)) (first | exact HCX.out _ H3.out.2 | exact HCX.out _ H2.out.2 | exact HCX.out _ HK1.out) (first
    | (go_at_call 25
       refine (ren_dk HPD.out.a HX.out.2.2.2.2.1 (by omega) name tto hn1 hn2).mono ?_
       rintro e w2 ⟨rfl, t2, g2⟩
       rw [← HRES.out]
       have p2 := HPD.out.prog g2
       have hk2 : Kept (Pft d r t R D) w1 w2 := HK1.out.trans p2.kp (fun _ _ e => e)
       obtain ⟨t1', t2', t3', t4'⟩ := HCX.out w2 hk2
       have H2 := hid (And.intro p2 hk2)
       clear g2 p2 hk2)
    | (go_at_call 57
       refine (rename_r H2.out.1.pr.b HX.out.2.2.2.2.1 (by omega) HX.out.2.2.2.2.2.1 HX.out.2.2.2.2.2.2.1 name tto hn1 hn2).mono ?_
       rintro e w3 ⟨rfl, R3, g3⟩
       rw [← HRES.out]
       have p3 := H2.out.1.trans (H2.out.1.pr.doc g3)
       have hk3 : Kept (Pft d r t R D) w1 w3 := HK1.out.trans p3.kp (fun _ _ e => e)
       obtain ⟨u1', u2', u3', u4'⟩ := HCX.out w3 hk3
       have H3 := hid (And.intro p3 hk3)
       clear g3 p3 hk3))
  have HS := hid (show PG d r w1 t R D w3 t2 R3 (renP D name tto).2 (renP D name tto).2 ∧ Kept (Pft d r t R D) w1 w3 from ⟨⟨H3.out.1.pr, H3.out.2, fun k e => H3.out.1.ft k e⟩, H3.out.2⟩)
  go_wp2_with (
    go_at_call 68
    refine (left_any (.slice a1 data.length q1) data (w.heap.size + 1) w3 (HSD.out w3 H3.out.2).1.1 (by omega) (HSD.out w3 H3.out.2).2).mono ?_
    rintro e w9 ⟨rfl, hdn⟩
    have H9 := hid hdn
    clear hdn)
  go_loopw [16] (fun i wr => ∃ (k : Nat) (bs : List Int), k ≤ data.length + 40 ∧ i = .int .i64 k ∧ bs.length = data.length + 40 ∧ Own wr (w.heap.size + 1) bs ∧ Hid (Kept (fun k => k = w.heap.size + 1) w3 wr)) (fun i _ => data.length + 40 - (intOf i).toNat)
  case atStart =>
    obtain ⟨m, rfl⟩ := H9.out
    exact ⟨0, rm data, Nat.zero_le _, by go_num, by simp [rm], (HSD.out w3 H3.out.2).2, hid ((Kept.refl _ _).drewN m)⟩
  case round =>
    obtain ⟨k, bs, hk9, rfl, hbs, ho9, HK⟩ := hrel
    by_cases hlt : k < data.length + 40
    · have cd := ho9.cell k bs[k] (by simp [hbs, hlt])
      have fz := free_of_block (o := k) ho9
      have i2 : (k : Int) < ((data.length + 40 : Nat) : Int) := by omega
      have i3 : (k : Int) < (data.length : Int) + 40 := by omega
      have HO := hid ho9
      clear ho9
      go_wp2
      go_roundw
      case rel => exact ⟨k + 1, bs.set k 99, by omega, by go_num, by simp [hbs], HO.out.set k 99, hid (HK.out.setCell (p := ⟨w.heap.size + 1, k, none⟩) (fun _ => rfl) _)⟩
      case measure => simp [intOf]; omega
    · have i2 : ¬ (k : Int) < ((data.length + 40 : Nat) : Int) := by omega
      have i3 : ¬ (k : Int) < (data.length : Int) + 40 := by omega
      have HO := hid ho9
      clear ho9
      go_wp2
      go_ret
      obtain ⟨k1, k2, k3⟩ := tk_ren HX.out.2.2.2.2.2.1 name tto
      exact ⟨rfl, t2, R3, (renP D name tto).2, PG.wipe HX.out.1 H1.out.2.1 HS.out.1 HK.out (by omega) hz1, HX.out.2.2.2.2.1.renP name tto, k1, by rw [k2]; exact hf1, by rw [k3]; exact hf2⟩

end Go.Proofs.YtlmompdfombgeaaGreat

namespace Go.Proofs.YtlmompdfombgeaaGreat
open Go.RowKit Go.MapKept

set_option maxRecDepth 100000 in
set_option maxHeartbeats 6400000 in
theorem st_Remove {w0 w : World} {d r : Nat} {t : Wt} {R : Rt} {D : Dq} {n : Nat} (x : Sp) (p : SPre w0 w d r t R D n x) (hk : x.kind = 7) :
    Calls Tryz.prog 14 #[.pointer (some ⟨d, 0, none⟩), .pointer (some ⟨r, 0, none⟩), .agg #[.int .i64 x.kind, .string x.name, .string x.to, x.dv, .int .i64 x.n, x.sv, x.rv, .int .i64 x.pn, x.fv]] w (SPost w d r t R D n) := by
  obtain ⟨hx, hw0, hlo, hsm, hpr, hwd, hnn, htk, hf1, hf2⟩ := p
  obtain ⟨kind, name, tto, dv, data, nn, sv, gs, rv, gr, pn, fv, pk⟩ := x
  obtain ⟨-, -, hpn, hn1, hn2, hdt, hoct, hfs, -, hfr, -, hpk⟩ := hx
  obtain ⟨m1, m2, m3, m4, m5, m6, m7⟩ := hsm
  obtain ⟨a1, q1, e1, d1, d2⟩ := hdt.shape
  obtain ⟨a2, q2, e2, d3, d4⟩ := hfs.shape
  obtain ⟨a3, q3, e3, d5, d6⟩ := hfr.shape
  obtain ⟨a4, q4, e4, d7, d8⟩ := hpk.1.shape
  dsimp only at e1 e2 e3 e4 hn1 hn2 hk d1 d2 d3 d4 d5 d6 d7 d8 hdt hfs hfr hpk m1 m2 m3 m4 m5 m6 m7 hpn
  subst e1 e2 e3 e4
  dsimp only
  obtain rfl : kind = 7 := hk
  have hdt' : Rf w0 1 (.slice a1 data.length q1) data.length (B8 data) := by
    rw [← flat_u8]
    exact hdt
  have hsl0 := hdt'.sl
  have hw0z := hw0.size
  have hPl := hpr.lt
  have HX := hid (And.intro hpr (And.intro hw0 (And.intro hsl0 (And.intro hlo (And.intro hwd (And.intro htk (And.intro hf1 hf2)))))))
  have HPL := hid hPl
  clear hpr hw0 hsl0 hfs hfr hpk hdt hdt' hoct m7 hlo hwd htk hPl
  have hbx : Below w.heap.size w (w.alloc (.cells #[.int .i64 7, .string name, .string tto, .slice a1 data.length q1, .int .i64 nn, .slice a2 gs.length q2, .slice a3 gr.length q3, .int .i64 pn, .slice a4 pk.length q4] 43)) := (Below.refl _ _).alloc (Nat.le_refl _) _
  have HBX := hid hbx
  clear hbx
  obtain ⟨res, hres⟩ : ∃ res : Int, res = (remP D name).1 := ⟨_, rfl⟩
  have HRES := hid hres
  clear hres
  go_enter Tryz.func14, Tryz.ntmps14
  go_wp2_with (
    go_at_call 51
    refine (roomy_any (.slice a1 data.length q1) data _ ((HX.out.2.2.1.1.below HX.out.2.1).below HBX.out) (by omega)).mono ?_
    rintro e w1 ⟨rfl, ho1, hb1⟩
    have es := (show (w.alloc (.cells #[.int .i64 7, .string name, .string tto, .slice a1 data.length q1, .int .i64 nn, .slice a2 gs.length q2, .slice a3 gr.length q3, .int .i64 pn, .slice a4 pk.length q4] 43)).heap.size = w.heap.size + 1 from by simp)
    rw [es] at ho1 hb1 ⊢
    have hbw1 : Below w.heap.size w w1 := HBX.out.trans (hb1.mono (by omega))
    have x0 : w1.cell? ⟨w.heap.size, 0, none⟩ = some (.int .i64 7) := (hb1.cell (by simp)).trans (by simp [go_sem])
    have x1 : w1.cell? ⟨w.heap.size, 1, none⟩ = some (.string name) := (hb1.cell (by simp)).trans (by simp [go_sem])
    have x2 : w1.cell? ⟨w.heap.size, 2, none⟩ = some (.string tto) := (hb1.cell (by simp)).trans (by simp [go_sem])
    have x3 : w1.cell? ⟨w.heap.size, 3, none⟩ = some (.slice a1 data.length q1) := (hb1.cell (by simp)).trans (by simp [go_sem])
    have x4 : w1.cell? ⟨w.heap.size, 4, none⟩ = some (.int .i64 nn) := (hb1.cell (by simp)).trans (by simp [go_sem])
    have hz1 : w.heap.size + 1 < w1.heap.size := hp_lt ho1
    have H1 := hid (And.intro ho1 (And.intro hbw1 (HX.out.1.below hbw1)))
    clear ho1 hb1 es hbw1)
  go_wp2_with fail
  have hbd1 : Below w1.heap.size w1 w1.drew := ⟨rfl, rfl, rfl, Nat.le_refl _, fun _ _ => rfl⟩
  have HPD := hid (H1.out.2.2.below hbd1)
  have HCX := hid (show ∀ W, Kept (Pft d r t R D) w1 W → W.cell? ⟨w.heap.size, 1, none⟩ = some (.string name) ∧ W.cell? ⟨w.heap.size, 2, none⟩ = some (.string tto) ∧ W.cell? ⟨w.heap.size, 3, none⟩ = some (.slice a1 data.length q1) ∧ W.cell? ⟨w.heap.size, 4, none⟩ = some (.int .i64 nn) from fun W hk => by
    have hn : ¬ Pft d r t R D w.heap.size := fun e => by have := HPL.out _ e; omega
    exact ⟨hk.cell x1 hn, hk.cell x2 hn, hk.cell x3 hn, hk.cell x4 hn⟩)
  have HK1 := hid (show Kept (Pft d r t R D) w1 w1.drew from (Kept.ofBelow hbd1).mono (fun _ _ e => e.elim))
  have HSD := hid (show ∀ W, Kept (Pft d r t R D) w1 W → Sn W (.slice a1 data.length q1) data ∧ Own W (w.heap.size + 1) (rm data) from fun W hk => by
    have hb0 : Below w0.heap.size w0 W := (HX.out.2.1.trans (H1.out.2.1.mono hw0z)).trans (hk.below (Nat.le_trans hw0z H1.out.2.1.size) (fun k hk e => by have := HX.out.2.2.2.1 k e; omega))
    exact ⟨HX.out.2.2.1.1.below hb0 |> fun h => ⟨h, HX.out.2.2.1.2⟩, hp_kept H1.out.1 hk (fun e => by have := HPL.out _ e; omega)⟩)
  clear hbd1
  go_region_held (fun w' => w'.cell? ⟨w.heap.size, 1, none⟩ = some (.string name) ∧ w'.cell? ⟨w.heap.size, 2, none⟩ = some (.string tto) ∧ w'.cell? ⟨w.heap.size, 3, none⟩ = some (.slice a1 data.length q1) ∧ w'.cell? ⟨w.heap.size, 4, none⟩ = some (.int .i64 nn)) (first | exact HCX.out _ H3.out.2 | exact HCX.out _ H2.out.2 | exact HCX.out _ HK1.out) (first
    | (go_at_call 26
       refine (rem_dk HPD.out.a HX.out.2.2.2.2.1 (by omega) name hn1).mono ?_
       rintro e w2 ⟨rfl, t2, g2⟩
       rw [← HRES.out]
       have p2 := HPD.out.prog g2
       have hk2 : Kept (Pft d r t R D) w1 w2 := HK1.out.trans p2.kp (fun _ _ e => e)
       obtain ⟨t1', t2', t3', t4'⟩ := HCX.out w2 hk2
       have H2 := hid (And.intro p2 hk2)
       clear g2 p2 hk2)
    | (go_at_call 58
       refine (remove_r H2.out.1.pr.b HX.out.2.2.2.2.1 (by omega) HX.out.2.2.2.2.2.1 HX.out.2.2.2.2.2.2.1 name hn1).mono ?_
       rintro e w3 ⟨rfl, R3, g3⟩
       rw [← HRES.out]
       have p3 := H2.out.1.trans (H2.out.1.pr.doc g3)
       have hk3 : Kept (Pft d r t R D) w1 w3 := HK1.out.trans p3.kp (fun _ _ e => e)
       obtain ⟨u1', u2', u3', u4'⟩ := HCX.out w3 hk3
       have H3 := hid (And.intro p3 hk3)
       clear g3 p3 hk3))
  have HS := hid (show PG d r w1 t R D w3 t2 R3 (remP D name).2 (remP D name).2 ∧ Kept (Pft d r t R D) w1 w3 from ⟨⟨H3.out.1.pr, H3.out.2, fun k e => H3.out.1.ft k e⟩, H3.out.2⟩)
  go_wp2_with (
    go_at_call 68
    refine (left_any (.slice a1 data.length q1) data (w.heap.size + 1) w3 (HSD.out w3 H3.out.2).1.1 (by omega) (HSD.out w3 H3.out.2).2).mono ?_
    rintro e w9 ⟨rfl, hdn⟩
    have H9 := hid hdn
    clear hdn)
  go_loopw [16] (fun i wr => ∃ (k : Nat) (bs : List Int), k ≤ data.length + 40 ∧ i = .int .i64 k ∧ bs.length = data.length + 40 ∧ Own wr (w.heap.size + 1) bs ∧ Hid (Kept (fun k => k = w.heap.size + 1) w3 wr)) (fun i _ => data.length + 40 - (intOf i).toNat)
  case atStart =>
    obtain ⟨m, rfl⟩ := H9.out
    exact ⟨0, rm data, Nat.zero_le _, by go_num, by simp [rm], (HSD.out w3 H3.out.2).2, hid ((Kept.refl _ _).drewN m)⟩
  case round =>
    obtain ⟨k, bs, hk9, rfl, hbs, ho9, HK⟩ := hrel
    by_cases hlt : k < data.length + 40
    · have cd := ho9.cell k bs[k] (by simp [hbs, hlt])
      have fz := free_of_block (o := k) ho9
      have i2 : (k : Int) < ((data.length + 40 : Nat) : Int) := by omega
      have i3 : (k : Int) < (data.length : Int) + 40 := by omega
      have HO := hid ho9
      clear ho9
      go_wp2
      go_roundw
      case rel => exact ⟨k + 1, bs.set k 99, by omega, by go_num, by simp [hbs], HO.out.set k 99, hid (HK.out.setCell (p := ⟨w.heap.size + 1, k, none⟩) (fun _ => rfl) _)⟩
      case measure => simp [intOf]; omega
    · have i2 : ¬ (k : Int) < ((data.length + 40 : Nat) : Int) := by omega
      have i3 : ¬ (k : Int) < (data.length : Int) + 40 := by omega
      have HO := hid ho9
      clear ho9
      go_wp2
      go_ret
      obtain ⟨k1, k2, k3⟩ := tk_rem HX.out.2.2.2.2.2.1 name
      exact ⟨rfl, t2, R3, (remP D name).2, PG.wipe HX.out.1 H1.out.2.1 HS.out.1 HK.out (by omega) hz1, HX.out.2.2.2.2.1.remP name, k1, by rw [k2]; exact hf1, by rw [k3]; exact hf2⟩

end Go.Proofs.YtlmompdfombgeaaGreat
