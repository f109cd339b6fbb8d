import Derived.Test.YtlmompdfombgeaaGreatK21
import Derived.Test.YtlmompdfombgeaaGreatK26
import Derived.Test.YtlmompdfombgeaaGreatK14
namespace Go.Proofs.YtlmompdfombgeaaGreat
open Go.RowKit Go.MapKept

theorem Qks.kept {w w' : World} {B g cap : Nat} {ps : List Pk} {qs : List Qk} {S : Nat → Prop} (h : Qks w B g cap ps qs) (hk : Kept S w w') (hS : ∀ k, B ≤ k → ¬ S k) : Qks w' B g cap ps qs :=
  ⟨ownsRow_kept h.row hk (fun k hq => hS k (h.row.lt k hq).1), h.len, h.same, fun q hq => ownsRow_kept (h.ok q hq) hk (fun k hr => hS k ((h.ok q hq).lt k hr).1)⟩

set_option maxRecDepth 100000 in
set_option maxHeartbeats 6400000 in
theorem step_crash (x : Sp) (w0 w : World) (d r : Nat) (off : Bool) (cs : Int) (fs : List (Int × Int)) (hx : x.ok w0) (hw0 : Below w0.heap.size w0 w) (hd0 : w0.heap.size ≤ d) (hr0 : w0.heap.size ≤ r) (hsm : x.small) (h : Bo w d r off cs fs) (h0 : 0 ≤ cs) (h1 : cs ≤ 1000) (_hl : fs.length ≤ 300) (hk : x.kind = 10) :
    Calls Tryz.prog 14 #[.pointer (some ⟨d, 0, none⟩), .pointer (some ⟨r, 0, none⟩), .agg #[.int .i64 x.kind, .string x.name, .string x.to, x.dv, .int .i64 x.n, x.sv, x.rv, .int .i64 x.pn, x.fv]] w (StepPost w d r cs) := by
  obtain ⟨kind, name, to, dv, data, nn, sv, gs, rv, gr, pn, fv, pk⟩ := x
  obtain ⟨-, -, hpn, hn1, hn2, hdt, hoct, hfs, -, hfr, -, hpk⟩ := hx
  obtain ⟨m1, m2, m3, m4, m5, m6, m7⟩ := hsm
  obtain ⟨a1, q1, e1, d1, d2⟩ := hdt.shape
  obtain ⟨a2, q2, e2, d3, d4⟩ := hfs.shape
  obtain ⟨a3, q3, e3, d5, d6⟩ := hfr.shape
  obtain ⟨a4, q4, e4, d7, d8⟩ := hpk.1.shape
  dsimp only at e1 e2 e3 e4 hn1 hn2 hk d1 d2 d3 d4 d5 d6 d7 d8 hdt hfs hfr hpk m1 m2 m3 m4 m5 m6 m7 hpn
  subst e1 e2 e3 e4
  dsimp only
  obtain rfl : kind = 10 := hk
  have hdt' : Rf w0 1 (.slice a1 data.length q1) data.length (B8 data) := by
    rw [← flat_u8]
    exact hdt
  have hsl0 : Sl w0 (.slice a1 data.length q1) data := hdt'.sl.1
  have hdl := h.1.lt
  have hrl := h.2.1.lt
  have hw0z := hw0.size
  have HX := hid (And.intro h (And.intro hw0 (And.intro hsl0 (And.intro hfs (And.intro hfr hpk)))))
  have HM7 := hid m7
  clear h hw0 hsl0 hfs hfr hpk hdt hdt' hoct m7
  have hbx : Below w.heap.size w (w.alloc (.cells #[.int .i64 10, .string name, .string to, .slice a1 data.length q1, .int .i64 nn, .slice a2 gs.length q2, .slice a3 gr.length q3, .int .i64 pn, .slice a4 pk.length q4] 43)) := (Below.refl _ _).alloc (Nat.le_refl _) _
  have HBX := hid hbx
  clear hbx
  go_enter Tryz.func14, Tryz.ntmps14
  go_wp2_with (
    go_at_call 51
    refine (roomy_any (.slice a1 data.length q1) data _ ((HX.out.2.2.1.below HX.out.2.1).below HBX.out) (by omega)).mono ?_
    rintro e w1 ⟨rfl, ho1, hb1⟩
    have es := (show (w.alloc (.cells #[.int .i64 10, .string name, .string to, .slice a1 data.length q1, .int .i64 nn, .slice a2 gs.length q2, .slice a3 gr.length q3, .int .i64 pn, .slice a4 pk.length q4] 43)).heap.size = w.heap.size + 1 from by simp)
    rw [es] at ho1 hb1 ⊢
    have hbw1 : Below w.heap.size w w1 := HBX.out.trans (hb1.mono (by omega))
    have x0 : w1.cell? ⟨w.heap.size, 0, none⟩ = some (.int .i64 10) := (hb1.cell (by simp)).trans (by simp [go_sem])
    have x1 : w1.cell? ⟨w.heap.size, 1, none⟩ = some (.string name) := (hb1.cell (by simp)).trans (by simp [go_sem])
    have x2 : w1.cell? ⟨w.heap.size, 2, none⟩ = some (.string to) := (hb1.cell (by simp)).trans (by simp [go_sem])
    have x3 : w1.cell? ⟨w.heap.size, 3, none⟩ = some (.slice a1 data.length q1) := (hb1.cell (by simp)).trans (by simp [go_sem])
    have x4 : w1.cell? ⟨w.heap.size, 4, none⟩ = some (.int .i64 nn) := (hb1.cell (by simp)).trans (by simp [go_sem])
    have x5 : w1.cell? ⟨w.heap.size, 5, none⟩ = some (.slice a2 gs.length q2) := (hb1.cell (by simp)).trans (by simp [go_sem])
    have x6 : w1.cell? ⟨w.heap.size, 6, none⟩ = some (.slice a3 gr.length q3) := (hb1.cell (by simp)).trans (by simp [go_sem])
    have x7 : w1.cell? ⟨w.heap.size, 7, none⟩ = some (.int .i64 pn) := (hb1.cell (by simp)).trans (by simp [go_sem])
    have x8 : w1.cell? ⟨w.heap.size, 8, none⟩ = some (.slice a4 pk.length q4) := (hb1.cell (by simp)).trans (by simp [go_sem])
    have hz1 : w.heap.size + 1 < w1.heap.size := hp_lt ho1
    have H1 := hid (And.intro ho1 (And.intro hbw1 (HX.out.1.below hbw1)))
    clear ho1 hb1 es hbw1)
  have hP1 : Pks w1 (.slice a4 pk.length q4) pk := (HX.out.2.2.2.2.2.below HX.out.2.1).below H1.out.2.1
  have HP := hid hP1
  clear hP1
  go_wp2_with (first
    | (go_at_call 64
       refine (picked_any pn (.slice a4 pk.length q4) pk w1 HP.out m6 HM7.out).mono ?_
       rintro e w2 ⟨g, cq, qs, rfl, hqs, hb2⟩
       have t3 := (hb2.cell (World.block_lt_of_cell? _ _ x3)).trans x3
       have t7 := (hb2.cell (World.block_lt_of_cell? _ _ x7)).trans x7
       have t8 := (hb2.cell (World.block_lt_of_cell? _ _ x8)).trans x8
       have hzz := hb2.size
       have H2 := hid (And.intro hqs hb2)
       clear hqs hb2))
  have hW2 : Below w1.heap.size w1 (w2.alloc (.cells #[.int .i64 pn, .slice (some ⟨g, 0, none⟩) pk.length cq] 41)) := H2.out.2.alloc H2.out.2.size _
  have hqW : Qks (w2.alloc (.cells #[.int .i64 pn, .slice (some ⟨g, 0, none⟩) pk.length cq] 41)) w1.heap.size g cq pk qs := H2.out.1.kept ((Kept.refl (fun _ => False) w2).alloc _) (fun _ _ e => e)
  have p0 : (w2.alloc (.cells #[.int .i64 pn, .slice (some ⟨g, 0, none⟩) pk.length cq] 41)).cell? ⟨w2.heap.size, 0, none⟩ = some (.int .i64 pn) := by simp [go_sem]
  have p1 : (w2.alloc (.cells #[.int .i64 pn, .slice (some ⟨g, 0, none⟩) pk.length cq] 41)).cell? ⟨w2.heap.size, 1, none⟩ = some (.slice (some ⟨g, 0, none⟩) pk.length cq) := by simp [go_sem]
  have u3 : (w2.alloc (.cells #[.int .i64 pn, .slice (some ⟨g, 0, none⟩) pk.length cq] 41)).cell? ⟨w.heap.size, 3, none⟩ = some (.slice a1 data.length q1) := (World.cell?_alloc_past _ _ _ (World.block_lt_of_cell? _ _ t3)).trans t3
  have u7 : (w2.alloc (.cells #[.int .i64 pn, .slice (some ⟨g, 0, none⟩) pk.length cq] 41)).cell? ⟨w.heap.size, 7, none⟩ = some (.int .i64 pn) := (World.cell?_alloc_past _ _ _ (World.block_lt_of_cell? _ _ t7)).trans t7
  have u8 : (w2.alloc (.cells #[.int .i64 pn, .slice (some ⟨g, 0, none⟩) pk.length cq] 41)).cell? ⟨w.heap.size, 8, none⟩ = some (.slice a4 pk.length q4) := (World.cell?_alloc_past _ _ _ (World.block_lt_of_cell? _ _ t8)).trans t8
  have hzW : w2.heap.size < (w2.alloc (.cells #[.int .i64 pn, .slice (some ⟨g, 0, none⟩) pk.length cq] 41)).heap.size := by simp
  obtain ⟨W, hW⟩ : ∃ W, W = w2.alloc (.cells #[.int .i64 pn, .slice (some ⟨g, 0, none⟩) pk.length cq] 41) := ⟨_, rfl⟩
  rw [← hW] at hW2 hqW p0 p1 u3 u7 u8 hzW ⊢
  clear hW t3 t7 t8
  have hbW : Bo W.drew d r off cs fs := (H1.out.2.2.below hW2).below ((Below.refl _ _).drew)
  have HW := hid (And.intro hW2 (And.intro hqW hbW))
  clear hW2 hqW hbW x0 x1 x2 x3 x4 x5 x6 x7 x8
  go_region_held (fun w' => w'.cell? ⟨w.heap.size, 3, none⟩ = some (.slice a1 data.length q1) ∧ w'.cell? ⟨w.heap.size, 7, none⟩ = some (.int .i64 pn) ∧ w'.cell? ⟨w.heap.size, 8, none⟩ = some (.slice a4 pk.length q4) ∧ w'.cell? ⟨w2.heap.size, 0, none⟩ = some (.int .i64 pn) ∧ w'.cell? ⟨w2.heap.size, 1, none⟩ = some (.slice (some ⟨g, 0, none⟩) pk.length cq)) (go_keep) (first
    | (go_at_call 28
       refine (crash_z pn hpn (some ⟨g, 0, none⟩) pk.length cq HW.out.2.2.1).mono ?_
       rintro e w3 ⟨rfl, hz3, hk3'⟩
       have hk3 : Kept (fun k => k = d) W w3 := ⟨hk3'.os, hk3'.tape, hk3'.output, hk3'.size, hk3'.block⟩
       have v3 := hk3.cell u3 (by dsimp only; omega)
       have v7 := hk3.cell u7 (by dsimp only; omega)
       have v8 := hk3.cell u8 (by dsimp only; omega)
       have v0 := hk3.cell p0 (by dsimp only; omega)
       have v1 := hk3.cell p1 (by dsimp only; omega)
       have H3 := hid (And.intro hz3 (And.intro (zr_over HW.out.2.2.2.1 hk3' HW.out.2.2.2.2) hk3))
       clear hz3 hk3 hk3')
    | (go_at_call 65
       refine (rcrash_z pn hpn a4 pk.length q4 H3.out.2.1).mono ?_
       rintro e w4 ⟨rfl, hz4, hk4⟩
       have y3 := hk4.cell v3 (by dsimp only; omega)
       have y7 := hk4.cell v7 (by dsimp only; omega)
       have y8 := hk4.cell v8 (by dsimp only; omega)
       have y0 := hk4.cell v0 (by dsimp only; omega)
       have y1 := hk4.cell v1 (by dsimp only; omega)
       have kw := (((Kept.ofBelow (H1.out.2.1.trans (HW.out.1.mono H1.out.2.1.size))).mono (S' := fun k => k = d ∨ k = r) (fun _ _ e => e.elim)).trans H3.out.2.2 (fun _ _ e => .inl e)).trans hk4 (fun _ _ e => .inr e)
       have b0 := HX.out.2.1.trans (kw.below hw0z (fun k hk e => (by omega)))
       have hq4 := (HW.out.2.1.kept H3.out.2.2 (fun k hk e => (by omega))).kept hk4 (fun k hk e => (by omega))
       have H4 := hid (And.intro (zd_over H3.out.1 H3.out.2.1 hk4 HW.out.2.2.2.2) (And.intro hz4 (And.intro hk4 (And.intro kw (And.intro b0 hq4)))))
       clear hz4 hk4 kw b0 hq4)
    | (go_at_call 39; refine (nil_files w4).mono ?_; rintro e wa ⟨rfl, ea⟩; rw [ea]; clear ea wa)
    | (go_at_call 66
       refine (unpicked_any w1.heap.size g cq pn (.slice a4 pk.length q4) pk qs w4 H4.out.2.2.2.2.2 (HX.out.2.2.2.2.2.below H4.out.2.2.2.2.1) m6 HM7.out).mono ?_
       rintro e w5 ⟨rfl, hb5⟩
       have z3 := (hb5.cell (World.block_lt_of_cell? _ _ y3)).trans y3
       have z7 := (hb5.cell (World.block_lt_of_cell? _ _ y7)).trans y7
       have z8 := (hb5.cell (World.block_lt_of_cell? _ _ y8)).trans y8
       have z0 := (hb5.cell (World.block_lt_of_cell? _ _ y0)).trans y0
       have z1 := (hb5.cell (World.block_lt_of_cell? _ _ y1)).trans y1
       have H5 := hid hb5
       clear hb5))
  have hS : Own w5 (w.heap.size + 1) (rm data) ∧ Sl w5 (.slice a1 data.length q1) data ∧ Bos w5 d r (cs + 1) ∧ Kept (fun k => k = d ∨ k = r) w w5 := by
    obtain ⟨ho1, hb1, hz1⟩ := H1.out
    obtain ⟨z3, r3, k3⟩ := H3.out
    obtain ⟨z4, r4, k4, kw4, b04, hq4⟩ := H4.out
    have b5 := H5.out
    have ho4 := hp_kept (hp_kept (hp_below ho1 HW.out.1 (hp_lt ho1)) k3 (by omega)) k4 (by omega)
    have kw : Kept (fun k => k = d ∨ k = r) w w5 := kw4.trans (Kept.ofBelow b5) (fun _ _ e => e.elim)
    exact ⟨hp_below ho4 b5 (hp_lt ho4), HX.out.2.2.1.below (b04.trans (b5.mono b04.size)), ⟨false, 0, [], (show Bo w4 d r false 0 [] from ⟨z4, r4, hz1.2.2⟩).below b5, by omega, by omega, by simp⟩, kw⟩
  have HS := hid hS
  clear hS
  go_wp2_with (
    go_at_call 68
    refine (left_any (.slice a1 data.length q1) data (w.heap.size + 1) w5 HS.out.2.1 (by omega) HS.out.1).mono ?_
    rintro e w9 ⟨rfl, hdn⟩
    have H9 := hid hdn
    clear hdn)
  go_loopw [16] (fun i wr => ∃ (k : Nat) (bs : List Int), k ≤ data.length + 40 ∧ i = .int .i64 k ∧ bs.length = data.length + 40 ∧ Own wr (w.heap.size + 1) bs ∧ Hid (Kept (fun k => k = w.heap.size + 1) w5 wr)) (fun i _ => data.length + 40 - (intOf i).toNat)
  case atStart =>
    obtain ⟨m, rfl⟩ := H9.out
    exact ⟨0, rm data, Nat.zero_le _, by go_num, by simp [rm], HS.out.1, hid ((Kept.refl _ _).drewN m)⟩
  case round =>
    obtain ⟨k, bs, hk9, rfl, hbs, ho9, HK⟩ := hrel
    by_cases hlt : k < data.length + 40
    · have cd := ho9.cell k bs[k] (by simp [hbs, hlt])
      have fz := free_of_block (o := k) ho9
      have i2 : (k : Int) < ((data.length + 40 : Nat) : Int) := by omega
      have i3 : (k : Int) < (data.length : Int) + 40 := by omega
      have HO := hid ho9
      clear ho9
      go_wp2
      go_roundw
      case rel => exact ⟨k + 1, bs.set k 99, by omega, by go_num, by simp [hbs], HO.out.set k 99, hid (HK.out.setCell (p := ⟨w.heap.size + 1, k, none⟩) (fun _ => rfl) _)⟩
      case measure => simp [intOf]; omega
    · have i2 : ¬ (k : Int) < ((data.length + 40 : Nat) : Int) := by omega
      have i3 : ¬ (k : Int) < (data.length : Int) + 40 := by omega
      have HO := hid ho9
      clear ho9
      go_wp2
      go_ret
      obtain ⟨so, ss, sb, sk⟩ := HS.out
      exact ⟨rfl, sb.wipe so HK.out (by omega) (by omega), sk.trans HK.out (fun i hi e => by omega)⟩

end Go.Proofs.YtlmompdfombgeaaGreat

namespace Go.Proofs.YtlmompdfombgeaaGreat
open Go.RowKit Go.MapKept

set_option maxRecDepth 100000 in
set_option maxHeartbeats 1000000 in
theorem nfind (a b c : Value) (w : World) (_ha : a.cells = #[a]) (_hb : b.cells = #[b]) (_hc : c.cells = #[c]) :
    Calls Tryz.prog 69 #[.pointer none, .agg #[a, b, c]] w fun x w' => x = .returned (.tuple #[.pointer none, .int .i64 1]) ∧ Below w.heap.size w w' := by
  go_enter Tryz.func69, Tryz.ntmps69
  go_wp2
  go_ret2
  exact ⟨rfl, (Below.refl _ _).alloc (Nat.le_refl _) _⟩

set_option maxRecDepth 100000 in
set_option maxHeartbeats 1000000 in
theorem nstroke (fn : Nat) (a b c : Value) (cap : Array Value) (w : World) (_ha : a.cells = #[a]) (_hb : b.cells = #[b]) (_hc : c.cells = #[c]) :
    Calls Tryz.prog 76 #[.pointer none, .agg #[a, b, c], .func (.func fn) #[] cap] w fun x w' => x = .returned (.int .i64 1) ∧ Below w.heap.size w w' := by
  go_enter Tryz.func76, Tryz.ntmps76
  go_wp2_with (
    go_at_call 69
    refine (nfind a b c _ _ha _hb _hc).mono ?_
    rintro e w1 ⟨rfl, h1⟩
    have H1 := hid h1
    clear h1)
  go_ret
  exact ⟨rfl, ((Below.refl _ w).alloc (Nat.le_refl _) _).trans (H1.out.mono (by simp))⟩

set_option maxRecDepth 100000 in
set_option maxHeartbeats 1000000 in
theorem ncreate (nm : ByteArray) (w : World) : Calls Tryz.prog 20 #[.pointer none, .string nm] w fun x w' => x = .returned (.int .i64 1) ∧ Below w.heap.size w w' := by
  have hmf : ∀ (fn : Fn) (first cap : Array Value) (w : World), (Instr.makeFunc fn first cap).run Tryz.prog w = .ok (.func fn first cap) w := fun _ _ _ _ => rfl
  go_enter Tryz.func20, Tryz.ntmps20
  go_wp2_with (
    go_at_call 76
    refine (nstroke _ _ _ _ _ _ rfl rfl rfl).mono ?_
    rintro e w3 ⟨rfl, hx⟩
    have HX := hid hx
    clear hx)
  go_ret
  exact ⟨rfl, ((((Below.refl _ _).alloc (Nat.le_refl _) _).alloc (by simp) _).alloc (by simp; omega) _).trans (HX.out.mono (by simp; try omega))⟩

set_option maxRecDepth 100000 in
set_option maxHeartbeats 1000000 in
theorem nappend (nm : ByteArray) (ao : Option Addr) (n c : Nat) (w : World) : Calls Tryz.prog 21 #[.pointer none, .string nm, .slice ao n c] w fun x w' => x = .returned (.int .i64 1) ∧ Below w.heap.size w w' := by
  have hmf : ∀ (fn : Fn) (first cap : Array Value) (w : World), (Instr.makeFunc fn first cap).run Tryz.prog w = .ok (.func fn first cap) w := fun _ _ _ _ => rfl
  go_enter Tryz.func21, Tryz.ntmps21
  go_wp2_with (
    go_at_call 76
    refine (nstroke _ _ _ _ _ _ rfl rfl rfl).mono ?_
    rintro e w3 ⟨rfl, hx⟩
    have HX := hid hx
    clear hx)
  go_ret
  exact ⟨rfl, ((((Below.refl _ _).alloc (Nat.le_refl _) _).alloc (by simp) _).alloc (by simp; omega) _).trans (HX.out.mono (by simp; try omega))⟩

set_option maxRecDepth 100000 in
set_option maxHeartbeats 1000000 in
theorem ntruncate (nm : ByteArray) (sz : Int) (w : World) : Calls Tryz.prog 22 #[.pointer none, .string nm, .int .i64 sz] w fun x w' => x = .returned (.int .i64 1) ∧ Below w.heap.size w w' := by
  have hmf : ∀ (fn : Fn) (first cap : Array Value) (w : World), (Instr.makeFunc fn first cap).run Tryz.prog w = .ok (.func fn first cap) w := fun _ _ _ _ => rfl
  go_enter Tryz.func22, Tryz.ntmps22
  go_wp2_with (
    go_at_call 76
    refine (nstroke _ _ _ _ _ _ rfl rfl rfl).mono ?_
    rintro e w3 ⟨rfl, hx⟩
    have HX := hid hx
    clear hx)
  go_ret
  exact ⟨rfl, (((Below.refl _ _).alloc (Nat.le_refl _) _).alloc (by simp) _).trans (HX.out.mono (by simp; try omega))⟩

set_option maxRecDepth 100000 in
set_option maxHeartbeats 1000000 in
theorem nsync (nm : ByteArray) (w : World) : Calls Tryz.prog 23 #[.pointer none, .string nm] w fun x w' => x = .returned (.int .i64 1) ∧ Below w.heap.size w w' := by
  have hmf : ∀ (fn : Fn) (first cap : Array Value) (w : World), (Instr.makeFunc fn first cap).run Tryz.prog w = .ok (.func fn first cap) w := fun _ _ _ _ => rfl
  go_enter Tryz.func23, Tryz.ntmps23
  go_wp2_with (
    go_at_call 76
    refine (nstroke _ _ _ _ _ _ rfl rfl rfl).mono ?_
    rintro e w3 ⟨rfl, hx⟩
    have HX := hid hx
    clear hx)
  go_ret
  exact ⟨rfl, ((Below.refl _ _).alloc (Nat.le_refl _) _).trans (HX.out.mono (by simp; try omega))⟩

set_option maxRecDepth 100000 in
set_option maxHeartbeats 1000000 in
theorem nsyncNames  (w : World) : Calls Tryz.prog 24 #[.pointer none] w fun x w' => x = .returned (.int .i64 1) ∧ Below w.heap.size w w' := by
  have hmf : ∀ (fn : Fn) (first cap : Array Value) (w : World), (Instr.makeFunc fn first cap).run Tryz.prog w = .ok (.func fn first cap) w := fun _ _ _ _ => rfl
  go_enter Tryz.func24, Tryz.ntmps24
  go_wp2_with (
    go_at_call 76
    refine (nstroke _ _ _ _ _ _ rfl rfl rfl).mono ?_
    rintro e w3 ⟨rfl, hx⟩
    have HX := hid hx
    clear hx)
  go_ret
  exact ⟨rfl, ((Below.refl _ _).alloc (Nat.le_refl _) _).trans (HX.out.mono (by simp; try omega))⟩

set_option maxRecDepth 100000 in
set_option maxHeartbeats 1000000 in
theorem nrename (nm mn : ByteArray) (w : World) : Calls Tryz.prog 25 #[.pointer none, .string nm, .string mn] w fun x w' => x = .returned (.int .i64 1) ∧ Below w.heap.size w w' := by
  have hmf : ∀ (fn : Fn) (first cap : Array Value) (w : World), (Instr.makeFunc fn first cap).run Tryz.prog w = .ok (.func fn first cap) w := fun _ _ _ _ => rfl
  go_enter Tryz.func25, Tryz.ntmps25
  go_wp2_with (
    go_at_call 76
    refine (nstroke _ _ _ _ _ _ rfl rfl rfl).mono ?_
    rintro e w3 ⟨rfl, hx⟩
    have HX := hid hx
    clear hx)
  go_ret
  exact ⟨rfl, (((((Below.refl _ _).alloc (Nat.le_refl _) _).alloc (by simp) _).alloc (by simp; omega) _).alloc (by simp; omega) _).trans (HX.out.mono (by simp; try omega))⟩

set_option maxRecDepth 100000 in
set_option maxHeartbeats 1000000 in
theorem nremove (nm : ByteArray) (w : World) : Calls Tryz.prog 26 #[.pointer none, .string nm] w fun x w' => x = .returned (.int .i64 1) ∧ Below w.heap.size w w' := by
  have hmf : ∀ (fn : Fn) (first cap : Array Value) (w : World), (Instr.makeFunc fn first cap).run Tryz.prog w = .ok (.func fn first cap) w := fun _ _ _ _ => rfl
  go_enter Tryz.func26, Tryz.ntmps26
  go_wp2_with (
    go_at_call 76
    refine (nstroke _ _ _ _ _ _ rfl rfl rfl).mono ?_
    rintro e w3 ⟨rfl, hx⟩
    have HX := hid hx
    clear hx)
  go_ret
  exact ⟨rfl, ((((Below.refl _ _).alloc (Nat.le_refl _) _).alloc (by simp) _).alloc (by simp; omega) _).trans (HX.out.mono (by simp; try omega))⟩

set_option maxRecDepth 100000 in
set_option maxHeartbeats 1000000 in
theorem nread (nm : ByteArray) (w : World) : Calls Tryz.prog 15 #[.pointer none, .string nm] w fun x w' => x = .returned (.tuple #[.slice none 0 0, .int .i64 1]) ∧ Below w.heap.size w w' := by
  go_enter Tryz.func15, Tryz.ntmps15
  go_wp2_with (
    go_at_call 69
    refine (nfind _ _ _ _ rfl rfl rfl).mono ?_
    rintro e w3 ⟨rfl, hx⟩
    have HX := hid hx
    clear hx)
  go_ret2
  exact ⟨rfl, ((Below.refl _ w).alloc (Nat.le_refl _) _).trans (HX.out.mono (by simp))⟩

set_option maxRecDepth 100000 in
set_option maxHeartbeats 1000000 in
theorem nlist (w : World) : Calls Tryz.prog 16 #[.pointer none] w fun x w' => x = .returned (.tuple #[.slice none 0 0, .int .i64 1]) ∧ Below w.heap.size w w' := by
  go_enter Tryz.func16, Tryz.ntmps16
  go_wp2_with (
    go_at_call 69
    refine (nfind _ _ _ _ rfl rfl rfl).mono ?_
    rintro e w3 ⟨rfl, hx⟩
    have HX := hid hx
    clear hx)
  go_ret2
  exact ⟨rfl, HX.out⟩

set_option maxRecDepth 100000 in
theorem npending  (w : World) : Calls Tryz.prog 17 #[.pointer none] w fun x w' => x = .returned (.tuple #[.int .i64 0, .slice none 0 0]) ∧ Below w.heap.size w w' := by
  go_enter Tryz.func17, Tryz.ntmps17
  go_wp2
  go_ret2
  exact ⟨rfl, by first | exact Below.refl _ _ | exact (Below.refl _ _).alloc (Nat.le_refl _) _⟩

set_option maxRecDepth 100000 in
theorem nheld  (w : World) : Calls Tryz.prog 18 #[.pointer none] w fun x w' => x = .returned (.tuple #[.int .i64 0, .int .i64 0]) ∧ Below w.heap.size w w' := by
  go_enter Tryz.func18, Tryz.ntmps18
  go_wp2
  go_ret2
  exact ⟨rfl, by first | exact Below.refl _ _ | exact (Below.refl _ _).alloc (Nat.le_refl _) _⟩

set_option maxRecDepth 100000 in
theorem nplan (a b : Option Addr) (n c m e : Nat) (w : World) : Calls Tryz.prog 19 #[.pointer none, .agg #[.slice a n c, .slice b m e]] w fun x w' => x = .returned (.tuple #[]) ∧ Below w.heap.size w w' := by
  go_enter Tryz.func19, Tryz.ntmps19
  go_wp2
  refine bodyPost_ret (results_none Tryz.results19 _ _ _) rfl ?_
  exact ⟨rfl, by first | exact Below.refl _ _ | exact (Below.refl _ _).alloc (Nat.le_refl _) _⟩

set_option maxRecDepth 100000 in
theorem nhand (nm : ByteArray) (ao : Option Addr) (n c : Nat) (w : World) : Calls Tryz.prog 27 #[.pointer none, .string nm, .slice ao n c] w fun x w' => x = .returned (.int .i64 1) ∧ Below w.heap.size w w' := by
  go_enter Tryz.func27, Tryz.ntmps27
  go_wp2
  go_ret
  exact ⟨rfl, by first | exact Below.refl _ _ | exact (Below.refl _ _).alloc (Nat.le_refl _) _⟩

set_option maxRecDepth 100000 in
theorem ncrash (pn : Int) (ao : Option Addr) (n c : Nat) (w : World) : Calls Tryz.prog 28 #[.pointer none, .agg #[.int .i64 pn, .slice ao n c]] w fun x w' => x = .returned (.slice none 0 0) ∧ Below w.heap.size w w' := by
  go_enter Tryz.func28, Tryz.ntmps28
  go_wp2
  go_ret
  exact ⟨rfl, by first | exact Below.refl _ _ | exact (Below.refl _ _).alloc (Nat.le_refl _) _⟩

set_option maxRecDepth 100000 in
theorem nfiles  (w : World) : Calls Tryz.prog 29 #[.pointer none] w fun x w' => x = .returned (.slice none 0 0) ∧ Below w.heap.size w w' := by
  go_enter Tryz.func29, Tryz.ntmps29
  go_wp2
  go_ret
  exact ⟨rfl, by first | exact Below.refl _ _ | exact (Below.refl _ _).alloc (Nat.le_refl _) _⟩

set_option maxRecDepth 100000 in
theorem nsafe  (w : World) : Calls Tryz.prog 30 #[.pointer none] w fun x w' => x = .returned (.slice none 0 0) ∧ Below w.heap.size w w' := by
  go_enter Tryz.func30, Tryz.ntmps30
  go_wp2
  go_ret
  exact ⟨rfl, by first | exact Below.refl _ _ | exact (Below.refl _ _).alloc (Nat.le_refl _) _⟩

set_option maxRecDepth 100000 in
theorem noff  (w : World) : Calls Tryz.prog 31 #[.pointer none] w fun x w' => x = .returned (.bool false) ∧ Below w.heap.size w w' := by
  go_enter Tryz.func31, Tryz.ntmps31
  go_wp2
  go_ret
  exact ⟨rfl, by first | exact Below.refl _ _ | exact (Below.refl _ _).alloc (Nat.le_refl _) _⟩

set_option maxRecDepth 100000 in
theorem nstrokes  (w : World) : Calls Tryz.prog 32 #[.pointer none] w fun x w' => x = .returned (.int .i64 0) ∧ Below w.heap.size w w' := by
  go_enter Tryz.func32, Tryz.ntmps32
  go_wp2
  go_ret
  exact ⟨rfl, by first | exact Below.refl _ _ | exact (Below.refl _ _).alloc (Nat.le_refl _) _⟩

set_option maxRecDepth 100000 in
theorem nreads  (w : World) : Calls Tryz.prog 33 #[.pointer none] w fun x w' => x = .returned (.int .i64 0) ∧ Below w.heap.size w w' := by
  go_enter Tryz.func33, Tryz.ntmps33
  go_wp2
  go_ret
  exact ⟨rfl, by first | exact Below.refl _ _ | exact (Below.refl _ _).alloc (Nat.le_refl _) _⟩

end Go.Proofs.YtlmompdfombgeaaGreat
