import Derived.Test.YtlmompdfombgeaaGreatK21
namespace Go.Proofs.YtlmompdfombgeaaGreat
open Go.RowKit Go.MapKept

set_option maxRecDepth 100000 in
set_option maxHeartbeats 6400000 in
theorem step_remove (x : Sp) (w0 w : World) (d r : Nat) (off : Bool) (cs : Int) (fs : List (Int × Int)) (hx : x.ok w0) (hw0 : Below w0.heap.size w0 w) (_hd0 : w0.heap.size ≤ d) (_hr0 : w0.heap.size ≤ r) (hsm : x.small) (h : Bo w d r off cs fs) (h0 : 0 ≤ cs) (_h1 : cs ≤ 1000) (hl : fs.length ≤ 300) (hk : x.kind = 7) :
    Calls Tryz.prog 14 #[.pointer (some ⟨d, 0, none⟩), .pointer (some ⟨r, 0, none⟩), .agg #[.int .i64 x.kind, .string x.name, .string x.to, x.dv, .int .i64 x.n, x.sv, x.rv, .int .i64 x.pn, x.fv]] w (StepPost w d r cs) := by
  obtain ⟨kind, name, to, dv, data, nn, sv, gs, rv, gr, pn, fv, pk⟩ := x
  obtain ⟨-, -, hpn, hn1, hn2, hdt, hoct, hfs, -, hfr, -, hpk⟩ := hx
  obtain ⟨m1, m2, m3, m4, m5, m6, m7⟩ := hsm
  obtain ⟨a1, q1, e1, d1, d2⟩ := hdt.shape
  obtain ⟨a2, q2, e2, d3, d4⟩ := hfs.shape
  obtain ⟨a3, q3, e3, d5, d6⟩ := hfr.shape
  obtain ⟨a4, q4, e4, d7, d8⟩ := hpk.1.shape
  dsimp only at e1 e2 e3 e4 hn1 hn2 hk d1 d2 d3 d4 d5 d6 d7 d8 hdt hfs hfr hpk m1 m2 m3 m4 m5 m6 m7 hpn
  subst e1 e2 e3 e4
  dsimp only
  obtain rfl : kind = 7 := hk
  have hdt' : Rf w0 1 (.slice a1 data.length q1) data.length (B8 data) := by
    rw [← flat_u8]
    exact hdt
  have hsl0 : Sl w0 (.slice a1 data.length q1) data := hdt'.sl.1
  have hdl := h.1.lt
  have hrl := h.2.1.lt
  have hw0z := hw0.size
  have HX := hid (And.intro h (And.intro hw0 (And.intro hsl0 (And.intro hfs (And.intro hfr hpk)))))
  have HM7 := hid m7
  clear h hw0 hsl0 hfs hfr hpk hdt hdt' hoct m7
  have hbx : Below w.heap.size w (w.alloc (.cells #[.int .i64 7, .string name, .string to, .slice a1 data.length q1, .int .i64 nn, .slice a2 gs.length q2, .slice a3 gr.length q3, .int .i64 pn, .slice a4 pk.length q4] 43)) := (Below.refl _ _).alloc (Nat.le_refl _) _
  have HBX := hid hbx
  clear hbx
  go_enter Tryz.func14, Tryz.ntmps14
  go_wp2_with (
    go_at_call 51
    refine (roomy_any (.slice a1 data.length q1) data _ ((HX.out.2.2.1.below HX.out.2.1).below HBX.out) (by omega)).mono ?_
    rintro e w1 ⟨rfl, ho1, hb1⟩
    have es := (show (w.alloc (.cells #[.int .i64 7, .string name, .string to, .slice a1 data.length q1, .int .i64 nn, .slice a2 gs.length q2, .slice a3 gr.length q3, .int .i64 pn, .slice a4 pk.length q4] 43)).heap.size = w.heap.size + 1 from by simp)
    rw [es] at ho1 hb1 ⊢
    have hbw1 : Below w.heap.size w w1 := HBX.out.trans (hb1.mono (by omega))
    have x0 : w1.cell? ⟨w.heap.size, 0, none⟩ = some (.int .i64 7) := (hb1.cell (by simp)).trans (by simp [go_sem])
    have x1 : w1.cell? ⟨w.heap.size, 1, none⟩ = some (.string name) := (hb1.cell (by simp)).trans (by simp [go_sem])
    have x2 : w1.cell? ⟨w.heap.size, 2, none⟩ = some (.string to) := (hb1.cell (by simp)).trans (by simp [go_sem])
    have x3 : w1.cell? ⟨w.heap.size, 3, none⟩ = some (.slice a1 data.length q1) := (hb1.cell (by simp)).trans (by simp [go_sem])
    have x4 : w1.cell? ⟨w.heap.size, 4, none⟩ = some (.int .i64 nn) := (hb1.cell (by simp)).trans (by simp [go_sem])
    have x5 : w1.cell? ⟨w.heap.size, 5, none⟩ = some (.slice a2 gs.length q2) := (hb1.cell (by simp)).trans (by simp [go_sem])
    have x6 : w1.cell? ⟨w.heap.size, 6, none⟩ = some (.slice a3 gr.length q3) := (hb1.cell (by simp)).trans (by simp [go_sem])
    have x7 : w1.cell? ⟨w.heap.size, 7, none⟩ = some (.int .i64 pn) := (hb1.cell (by simp)).trans (by simp [go_sem])
    have x8 : w1.cell? ⟨w.heap.size, 8, none⟩ = some (.slice a4 pk.length q4) := (hb1.cell (by simp)).trans (by simp [go_sem])
    have hz1 : w.heap.size + 1 < w1.heap.size := hp_lt ho1
    have H1 := hid (And.intro ho1 (And.intro hbw1 (HX.out.1.below hbw1)))
    clear ho1 hb1 es hbw1)
  go_wp2_with fail
  have hbd : Bo w1.drew d r off cs fs := H1.out.2.2.below ((Below.refl _ _).drew)
  have HBD := hid hbd
  clear hbd
  go_region_held (fun w' => w'.cell? ⟨w.heap.size, 1, none⟩ = some (.string name) ∧ w'.cell? ⟨w.heap.size, 2, none⟩ = some (.string to) ∧ w'.cell? ⟨w.heap.size, 3, none⟩ = some (.slice a1 data.length q1) ∧ w'.cell? ⟨w.heap.size, 4, none⟩ = some (.int .i64 nn)) (go_keep) (first
    | (go_at_call 26
       refine (remove_z name HBD.out.1 hn1).mono ?_
       rintro e w2 ⟨rfl, hb2'⟩
       have hb2 : Below w1.heap.size w1 w2 := ⟨hb2'.os, hb2'.tape, hb2'.output, hb2'.size, hb2'.block⟩
       have t1 := (hb2.cell (World.block_lt_of_cell? _ _ x1)).trans x1
       have t2 := (hb2.cell (World.block_lt_of_cell? _ _ x2)).trans x2
       have t3 := (hb2.cell (World.block_lt_of_cell? _ _ x3)).trans x3
       have t4 := (hb2.cell (World.block_lt_of_cell? _ _ x4)).trans x4
       have H2 := hid hb2
       clear hb2 hb2')
    | (go_at_call 58
       refine (rremove_zz name (H1.out.2.2.below H2.out).2.1 hn1).mono ?_
       rintro e w3 ⟨rfl, hb3⟩
       have u1 := (hb3.cell (World.block_lt_of_cell? _ _ t1)).trans t1
       have u2 := (hb3.cell (World.block_lt_of_cell? _ _ t2)).trans t2
       have u3 := (hb3.cell (World.block_lt_of_cell? _ _ t3)).trans t3
       have u4 := (hb3.cell (World.block_lt_of_cell? _ _ t4)).trans t4
       have H3 := hid hb3
       clear hb3))
  have hS : Own w3 (w.heap.size + 1) (rm data) ∧ Sl w3 (.slice a1 data.length q1) data ∧ Bos w3 d r (cs + 1) ∧ Kept (fun k => k = d ∨ k = r) w w3 := by
    obtain ⟨ho1, hb1, hz1⟩ := H1.out
    have b3 : Below w1.heap.size w1 w3 := H2.out.trans (H3.out.mono H2.out.size)
    have bw3 : Below w.heap.size w w3 := hb1.trans (b3.mono hb1.size)
    exact ⟨hp_below ho1 b3 (hp_lt ho1), (HX.out.2.2.1.below HX.out.2.1).below bw3, ⟨off, cs, fs, hz1.below b3, h0, by omega, hl⟩, (Kept.ofBelow bw3).mono (fun _ _ e => e.elim)⟩
  have HS := hid hS
  clear hS
  go_wp2_with (
    go_at_call 68
    refine (left_any (.slice a1 data.length q1) data (w.heap.size + 1) w3 HS.out.2.1 (by omega) HS.out.1).mono ?_
    rintro e w9 ⟨rfl, hdn⟩
    have H9 := hid hdn
    clear hdn)
  go_loopw [16] (fun i wr => ∃ (k : Nat) (bs : List Int), k ≤ data.length + 40 ∧ i = .int .i64 k ∧ bs.length = data.length + 40 ∧ Own wr (w.heap.size + 1) bs ∧ Hid (Kept (fun k => k = w.heap.size + 1) w3 wr)) (fun i _ => data.length + 40 - (intOf i).toNat)
  case atStart =>
    obtain ⟨m, rfl⟩ := H9.out
    exact ⟨0, rm data, Nat.zero_le _, by go_num, by simp [rm], HS.out.1, hid ((Kept.refl _ _).drewN m)⟩
  case round =>
    obtain ⟨k, bs, hk9, rfl, hbs, ho9, HK⟩ := hrel
    by_cases hlt : k < data.length + 40
    · have cd := ho9.cell k bs[k] (by simp [hbs, hlt])
      have fz := free_of_block (o := k) ho9
      have i2 : (k : Int) < ((data.length + 40 : Nat) : Int) := by omega
      have i3 : (k : Int) < (data.length : Int) + 40 := by omega
      have HO := hid ho9
      clear ho9
      go_wp2
      go_roundw
      case rel => exact ⟨k + 1, bs.set k 99, by omega, by go_num, by simp [hbs], HO.out.set k 99, hid (HK.out.setCell (p := ⟨w.heap.size + 1, k, none⟩) (fun _ => rfl) _)⟩
      case measure => simp [intOf]; omega
    · have i2 : ¬ (k : Int) < ((data.length + 40 : Nat) : Int) := by omega
      have i3 : ¬ (k : Int) < (data.length : Int) + 40 := by omega
      have HO := hid ho9
      clear ho9
      go_wp2
      go_ret
      obtain ⟨so, ss, sb, sk⟩ := HS.out
      exact ⟨rfl, sb.wipe so HK.out (by omega) (by omega), sk.trans HK.out (fun i hi e => by omega)⟩

end Go.Proofs.YtlmompdfombgeaaGreat

namespace Go.Proofs.YtlmompdfombgeaaGreat
open Go.RowKit Go.MapKept

set_option maxRecDepth 100000 in
set_option maxHeartbeats 6400000 in
theorem step_read (x : Sp) (w0 w : World) (d r : Nat) (off : Bool) (cs : Int) (fs : List (Int × Int)) (hx : x.ok w0) (hw0 : Below w0.heap.size w0 w) (_hd0 : w0.heap.size ≤ d) (_hr0 : w0.heap.size ≤ r) (hsm : x.small) (h : Bo w d r off cs fs) (h0 : 0 ≤ cs) (_h1 : cs ≤ 1000) (hl : fs.length ≤ 300) (hk : x.kind = 8) :
    Calls Tryz.prog 14 #[.pointer (some ⟨d, 0, none⟩), .pointer (some ⟨r, 0, none⟩), .agg #[.int .i64 x.kind, .string x.name, .string x.to, x.dv, .int .i64 x.n, x.sv, x.rv, .int .i64 x.pn, x.fv]] w (StepPost w d r cs) := by
  obtain ⟨kind, name, to, dv, data, nn, sv, gs, rv, gr, pn, fv, pk⟩ := x
  obtain ⟨-, -, hpn, hn1, hn2, hdt, hoct, hfs, -, hfr, -, hpk⟩ := hx
  obtain ⟨m1, m2, m3, m4, m5, m6, m7⟩ := hsm
  obtain ⟨a1, q1, e1, d1, d2⟩ := hdt.shape
  obtain ⟨a2, q2, e2, d3, d4⟩ := hfs.shape
  obtain ⟨a3, q3, e3, d5, d6⟩ := hfr.shape
  obtain ⟨a4, q4, e4, d7, d8⟩ := hpk.1.shape
  dsimp only at e1 e2 e3 e4 hn1 hn2 hk d1 d2 d3 d4 d5 d6 d7 d8 hdt hfs hfr hpk m1 m2 m3 m4 m5 m6 m7 hpn
  subst e1 e2 e3 e4
  dsimp only
  obtain rfl : kind = 8 := hk
  have hdt' : Rf w0 1 (.slice a1 data.length q1) data.length (B8 data) := by
    rw [← flat_u8]
    exact hdt
  have hsl0 : Sl w0 (.slice a1 data.length q1) data := hdt'.sl.1
  have hdl := h.1.lt
  have hrl := h.2.1.lt
  have hw0z := hw0.size
  have HX := hid (And.intro h (And.intro hw0 (And.intro hsl0 (And.intro hfs (And.intro hfr hpk)))))
  have HM7 := hid m7
  clear h hw0 hsl0 hfs hfr hpk hdt hdt' hoct m7
  have hbx : Below w.heap.size w (w.alloc (.cells #[.int .i64 8, .string name, .string to, .slice a1 data.length q1, .int .i64 nn, .slice a2 gs.length q2, .slice a3 gr.length q3, .int .i64 pn, .slice a4 pk.length q4] 43)) := (Below.refl _ _).alloc (Nat.le_refl _) _
  have HBX := hid hbx
  clear hbx
  go_enter Tryz.func14, Tryz.ntmps14
  go_wp2_with (
    go_at_call 51
    refine (roomy_any (.slice a1 data.length q1) data _ ((HX.out.2.2.1.below HX.out.2.1).below HBX.out) (by omega)).mono ?_
    rintro e w1 ⟨rfl, ho1, hb1⟩
    have es := (show (w.alloc (.cells #[.int .i64 8, .string name, .string to, .slice a1 data.length q1, .int .i64 nn, .slice a2 gs.length q2, .slice a3 gr.length q3, .int .i64 pn, .slice a4 pk.length q4] 43)).heap.size = w.heap.size + 1 from by simp)
    rw [es] at ho1 hb1 ⊢
    have hbw1 : Below w.heap.size w w1 := HBX.out.trans (hb1.mono (by omega))
    have x0 : w1.cell? ⟨w.heap.size, 0, none⟩ = some (.int .i64 8) := (hb1.cell (by simp)).trans (by simp [go_sem])
    have x1 : w1.cell? ⟨w.heap.size, 1, none⟩ = some (.string name) := (hb1.cell (by simp)).trans (by simp [go_sem])
    have x2 : w1.cell? ⟨w.heap.size, 2, none⟩ = some (.string to) := (hb1.cell (by simp)).trans (by simp [go_sem])
    have x3 : w1.cell? ⟨w.heap.size, 3, none⟩ = some (.slice a1 data.length q1) := (hb1.cell (by simp)).trans (by simp [go_sem])
    have x4 : w1.cell? ⟨w.heap.size, 4, none⟩ = some (.int .i64 nn) := (hb1.cell (by simp)).trans (by simp [go_sem])
    have x5 : w1.cell? ⟨w.heap.size, 5, none⟩ = some (.slice a2 gs.length q2) := (hb1.cell (by simp)).trans (by simp [go_sem])
    have x6 : w1.cell? ⟨w.heap.size, 6, none⟩ = some (.slice a3 gr.length q3) := (hb1.cell (by simp)).trans (by simp [go_sem])
    have x7 : w1.cell? ⟨w.heap.size, 7, none⟩ = some (.int .i64 pn) := (hb1.cell (by simp)).trans (by simp [go_sem])
    have x8 : w1.cell? ⟨w.heap.size, 8, none⟩ = some (.slice a4 pk.length q4) := (hb1.cell (by simp)).trans (by simp [go_sem])
    have hz1 : w.heap.size + 1 < w1.heap.size := hp_lt ho1
    have H1 := hid (And.intro ho1 (And.intro hbw1 (HX.out.1.below hbw1)))
    clear ho1 hb1 es hbw1)
  go_wp2_with (first
    | (go_at_call 15
       refine (read_z name H1.out.2.2.1 hn1).mono ?_
       rintro e w2 ⟨rfl, hb2⟩
       have t1 := (hb2.cell (World.block_lt_of_cell? _ _ x1)).trans x1
       have t3 := (hb2.cell (World.block_lt_of_cell? _ _ x3)).trans x3
       have H2 := hid hb2
       clear hb2)
    | (go_at_call 59
       refine (rread_zz name (H1.out.2.2.below H2.out).2.1 hn1).mono ?_
       rintro e w3 ⟨rfl, hb3⟩
       have u3 := (hb3.cell (World.block_lt_of_cell? _ _ t3)).trans t3
       have H3 := hid hb3
       clear hb3)
    | (go_at_call 60
       refine (bytes_any (.slice none 0 0) (.slice none 0 0) [] [] w3 (sl_none _) (sl_none _) (by simp)).mono ?_
       rintro e w4 ⟨hdn, rfl⟩
       have u4 := (hdn.cell _).trans u3
       have H4 := hid hdn
       clear hdn))
  have hS : Own w4 (w.heap.size + 1) (rm data) ∧ Sl w4 (.slice a1 data.length q1) data ∧ Bos w4 d r (cs + 1) ∧ Kept (fun k => k = d ∨ k = r) w w4 := by
    obtain ⟨ho1, hb1, hz1⟩ := H1.out
    obtain ⟨m, rfl⟩ := H4.out
    have b3 : Below w1.heap.size w1 (w3.drewN m) := below_drewN (H2.out.trans (H3.out.mono H2.out.size)) m
    have bw3 : Below w.heap.size w (w3.drewN m) := hb1.trans (b3.mono hb1.size)
    exact ⟨hp_below ho1 b3 (hp_lt ho1), (HX.out.2.2.1.below HX.out.2.1).below bw3, ⟨off, cs, fs, hz1.below b3, h0, by omega, hl⟩, (Kept.ofBelow bw3).mono (fun _ _ e => e.elim)⟩
  have HS := hid hS
  clear hS
  go_wp2_with (
    go_at_call 68
    refine (left_any (.slice a1 data.length q1) data (w.heap.size + 1) w4 HS.out.2.1 (by omega) HS.out.1).mono ?_
    rintro e w9 ⟨rfl, hdn⟩
    have H9 := hid hdn
    clear hdn)
  go_loopw [16] (fun i wr => ∃ (k : Nat) (bs : List Int), k ≤ data.length + 40 ∧ i = .int .i64 k ∧ bs.length = data.length + 40 ∧ Own wr (w.heap.size + 1) bs ∧ Hid (Kept (fun k => k = w.heap.size + 1) w4 wr)) (fun i _ => data.length + 40 - (intOf i).toNat)
  case atStart =>
    obtain ⟨m, rfl⟩ := H9.out
    exact ⟨0, rm data, Nat.zero_le _, by go_num, by simp [rm], HS.out.1, hid ((Kept.refl _ _).drewN m)⟩
  case round =>
    obtain ⟨k, bs, hk9, rfl, hbs, ho9, HK⟩ := hrel
    by_cases hlt : k < data.length + 40
    · have cd := ho9.cell k bs[k] (by simp [hbs, hlt])
      have fz := free_of_block (o := k) ho9
      have i2 : (k : Int) < ((data.length + 40 : Nat) : Int) := by omega
      have i3 : (k : Int) < (data.length : Int) + 40 := by omega
      have HO := hid ho9
      clear ho9
      go_wp2
      go_roundw
      case rel => exact ⟨k + 1, bs.set k 99, by omega, by go_num, by simp [hbs], HO.out.set k 99, hid (HK.out.setCell (p := ⟨w.heap.size + 1, k, none⟩) (fun _ => rfl) _)⟩
      case measure => simp [intOf]; omega
    · have i2 : ¬ (k : Int) < ((data.length + 40 : Nat) : Int) := by omega
      have i3 : ¬ (k : Int) < (data.length : Int) + 40 := by omega
      have HO := hid ho9
      clear ho9
      go_wp2
      go_ret
      obtain ⟨so, ss, sb, sk⟩ := HS.out
      exact ⟨rfl, sb.wipe so HK.out (by omega) (by omega), sk.trans HK.out (fun i hi e => by omega)⟩

end Go.Proofs.YtlmompdfombgeaaGreat

namespace Go.Proofs.YtlmompdfombgeaaGreat
open Go.RowKit Go.MapKept

set_option maxRecDepth 100000 in
set_option maxHeartbeats 6400000 in
theorem step_hand (x : Sp) (w0 w : World) (d r : Nat) (off : Bool) (cs : Int) (fs : List (Int × Int)) (hx : x.ok w0) (hw0 : Below w0.heap.size w0 w) (_hd0 : w0.heap.size ≤ d) (_hr0 : w0.heap.size ≤ r) (hsm : x.small) (h : Bo w d r off cs fs) (h0 : 0 ≤ cs) (_h1 : cs ≤ 1000) (hl : fs.length ≤ 300) (hk : x.kind = 11) :
    Calls Tryz.prog 14 #[.pointer (some ⟨d, 0, none⟩), .pointer (some ⟨r, 0, none⟩), .agg #[.int .i64 x.kind, .string x.name, .string x.to, x.dv, .int .i64 x.n, x.sv, x.rv, .int .i64 x.pn, x.fv]] w (StepPost w d r cs) := by
  obtain ⟨kind, name, to, dv, data, nn, sv, gs, rv, gr, pn, fv, pk⟩ := x
  obtain ⟨-, -, hpn, hn1, hn2, hdt, hoct, hfs, -, hfr, -, hpk⟩ := hx
  obtain ⟨m1, m2, m3, m4, m5, m6, m7⟩ := hsm
  obtain ⟨a1, q1, e1, d1, d2⟩ := hdt.shape
  obtain ⟨a2, q2, e2, d3, d4⟩ := hfs.shape
  obtain ⟨a3, q3, e3, d5, d6⟩ := hfr.shape
  obtain ⟨a4, q4, e4, d7, d8⟩ := hpk.1.shape
  dsimp only at e1 e2 e3 e4 hn1 hn2 hk d1 d2 d3 d4 d5 d6 d7 d8 hdt hfs hfr hpk m1 m2 m3 m4 m5 m6 m7 hpn
  subst e1 e2 e3 e4
  dsimp only
  obtain rfl : kind = 11 := hk
  have hdt' : Rf w0 1 (.slice a1 data.length q1) data.length (B8 data) := by
    rw [← flat_u8]
    exact hdt
  have hsl0 : Sl w0 (.slice a1 data.length q1) data := hdt'.sl.1
  have hdl := h.1.lt
  have hrl := h.2.1.lt
  have hw0z := hw0.size
  have HX := hid (And.intro h (And.intro hw0 (And.intro hsl0 (And.intro hfs (And.intro hfr hpk)))))
  have HM7 := hid m7
  clear h hw0 hsl0 hfs hfr hpk hdt hdt' hoct m7
  have hbx : Below w.heap.size w (w.alloc (.cells #[.int .i64 11, .string name, .string to, .slice a1 data.length q1, .int .i64 nn, .slice a2 gs.length q2, .slice a3 gr.length q3, .int .i64 pn, .slice a4 pk.length q4] 43)) := (Below.refl _ _).alloc (Nat.le_refl _) _
  have HBX := hid hbx
  clear hbx
  go_enter Tryz.func14, Tryz.ntmps14
  go_wp2_with (
    go_at_call 51
    refine (roomy_any (.slice a1 data.length q1) data _ ((HX.out.2.2.1.below HX.out.2.1).below HBX.out) (by omega)).mono ?_
    rintro e w1 ⟨rfl, ho1, hb1⟩
    have es := (show (w.alloc (.cells #[.int .i64 11, .string name, .string to, .slice a1 data.length q1, .int .i64 nn, .slice a2 gs.length q2, .slice a3 gr.length q3, .int .i64 pn, .slice a4 pk.length q4] 43)).heap.size = w.heap.size + 1 from by simp)
    rw [es] at ho1 hb1 ⊢
    have hbw1 : Below w.heap.size w w1 := HBX.out.trans (hb1.mono (by omega))
    have x0 : w1.cell? ⟨w.heap.size, 0, none⟩ = some (.int .i64 11) := (hb1.cell (by simp)).trans (by simp [go_sem])
    have x1 : w1.cell? ⟨w.heap.size, 1, none⟩ = some (.string name) := (hb1.cell (by simp)).trans (by simp [go_sem])
    have x2 : w1.cell? ⟨w.heap.size, 2, none⟩ = some (.string to) := (hb1.cell (by simp)).trans (by simp [go_sem])
    have x3 : w1.cell? ⟨w.heap.size, 3, none⟩ = some (.slice a1 data.length q1) := (hb1.cell (by simp)).trans (by simp [go_sem])
    have x4 : w1.cell? ⟨w.heap.size, 4, none⟩ = some (.int .i64 nn) := (hb1.cell (by simp)).trans (by simp [go_sem])
    have x5 : w1.cell? ⟨w.heap.size, 5, none⟩ = some (.slice a2 gs.length q2) := (hb1.cell (by simp)).trans (by simp [go_sem])
    have x6 : w1.cell? ⟨w.heap.size, 6, none⟩ = some (.slice a3 gr.length q3) := (hb1.cell (by simp)).trans (by simp [go_sem])
    have x7 : w1.cell? ⟨w.heap.size, 7, none⟩ = some (.int .i64 pn) := (hb1.cell (by simp)).trans (by simp [go_sem])
    have x8 : w1.cell? ⟨w.heap.size, 8, none⟩ = some (.slice a4 pk.length q4) := (hb1.cell (by simp)).trans (by simp [go_sem])
    have hz1 : w.heap.size + 1 < w1.heap.size := hp_lt ho1
    have H1 := hid (And.intro ho1 (And.intro hbw1 (HX.out.1.below hbw1)))
    clear ho1 hb1 es hbw1)
  go_wp2_with fail
  have hbd : Bo w1.drew d r off cs fs := H1.out.2.2.below ((Below.refl _ _).drew)
  have HBD := hid hbd
  clear hbd
  go_region_held (fun w' => w'.cell? ⟨w.heap.size, 1, none⟩ = some (.string name) ∧ w'.cell? ⟨w.heap.size, 2, none⟩ = some (.string to) ∧ w'.cell? ⟨w.heap.size, 3, none⟩ = some (.slice a1 data.length q1) ∧ w'.cell? ⟨w.heap.size, 4, none⟩ = some (.int .i64 nn)) (go_keep) (first
    | (go_at_call 27
       refine (hand_z name _ _ _ HBD.out.1 hn1).mono ?_
       rintro e w2 ⟨rfl, hb2'⟩
       have hb2 : Below w1.heap.size w1 w2 := ⟨hb2'.os, hb2'.tape, hb2'.output, hb2'.size, hb2'.block⟩
       have t1 := (hb2.cell (World.block_lt_of_cell? _ _ x1)).trans x1
       have t2 := (hb2.cell (World.block_lt_of_cell? _ _ x2)).trans x2
       have t3 := (hb2.cell (World.block_lt_of_cell? _ _ x3)).trans x3
       have t4 := (hb2.cell (World.block_lt_of_cell? _ _ x4)).trans x4
       have H2 := hid hb2
       clear hb2 hb2')
    | (go_at_call 67
       refine (rhand_z name _ _ _ (H1.out.2.2.below H2.out).2.1 hn1).mono ?_
       rintro e w3 ⟨rfl, hb3⟩
       have u1 := (hb3.cell (World.block_lt_of_cell? _ _ t1)).trans t1
       have u2 := (hb3.cell (World.block_lt_of_cell? _ _ t2)).trans t2
       have u3 := (hb3.cell (World.block_lt_of_cell? _ _ t3)).trans t3
       have u4 := (hb3.cell (World.block_lt_of_cell? _ _ t4)).trans t4
       have H3 := hid hb3
       clear hb3))
  have hS : Own w3 (w.heap.size + 1) (rm data) ∧ Sl w3 (.slice a1 data.length q1) data ∧ Bos w3 d r (cs + 1) ∧ Kept (fun k => k = d ∨ k = r) w w3 := by
    obtain ⟨ho1, hb1, hz1⟩ := H1.out
    have b3 : Below w1.heap.size w1 w3 := H2.out.trans (H3.out.mono H2.out.size)
    have bw3 : Below w.heap.size w w3 := hb1.trans (b3.mono hb1.size)
    exact ⟨hp_below ho1 b3 (hp_lt ho1), (HX.out.2.2.1.below HX.out.2.1).below bw3, ⟨off, cs, fs, hz1.below b3, h0, by omega, hl⟩, (Kept.ofBelow bw3).mono (fun _ _ e => e.elim)⟩
  have HS := hid hS
  clear hS
  go_wp2_with (
    go_at_call 68
    refine (left_any (.slice a1 data.length q1) data (w.heap.size + 1) w3 HS.out.2.1 (by omega) HS.out.1).mono ?_
    rintro e w9 ⟨rfl, hdn⟩
    have H9 := hid hdn
    clear hdn)
  go_loopw [16] (fun i wr => ∃ (k : Nat) (bs : List Int), k ≤ data.length + 40 ∧ i = .int .i64 k ∧ bs.length = data.length + 40 ∧ Own wr (w.heap.size + 1) bs ∧ Hid (Kept (fun k => k = w.heap.size + 1) w3 wr)) (fun i _ => data.length + 40 - (intOf i).toNat)
  case atStart =>
    obtain ⟨m, rfl⟩ := H9.out
    exact ⟨0, rm data, Nat.zero_le _, by go_num, by simp [rm], HS.out.1, hid ((Kept.refl _ _).drewN m)⟩
  case round =>
    obtain ⟨k, bs, hk9, rfl, hbs, ho9, HK⟩ := hrel
    by_cases hlt : k < data.length + 40
    · have cd := ho9.cell k bs[k] (by simp [hbs, hlt])
      have fz := free_of_block (o := k) ho9
      have i2 : (k : Int) < ((data.length + 40 : Nat) : Int) := by omega
      have i3 : (k : Int) < (data.length : Int) + 40 := by omega
      have HO := hid ho9
      clear ho9
      go_wp2
      go_roundw
      case rel => exact ⟨k + 1, bs.set k 99, by omega, by go_num, by simp [hbs], HO.out.set k 99, hid (HK.out.setCell (p := ⟨w.heap.size + 1, k, none⟩) (fun _ => rfl) _)⟩
      case measure => simp [intOf]; omega
    · have i2 : ¬ (k : Int) < ((data.length + 40 : Nat) : Int) := by omega
      have i3 : ¬ (k : Int) < (data.length : Int) + 40 := by omega
      have HO := hid ho9
      clear ho9
      go_wp2
      go_ret
      obtain ⟨so, ss, sb, sk⟩ := HS.out
      exact ⟨rfl, sb.wipe so HK.out (by omega) (by omega), sk.trans HK.out (fun i hi e => by omega)⟩

end Go.Proofs.YtlmompdfombgeaaGreat
