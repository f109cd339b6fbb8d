import Derived.Test.YtlmompdfombgeabGreatK23
namespace Go.Proofs.YtlmompdfombgeabGreat
open Go.RowKit Go.MapKept

theorem flat_u8' : ∀ data : List Int, data.flatMap (fun y => [Value.int .u8 y]) = B8 data
  | [] => rfl
  | y :: l => by rw [List.flatMap_cons, flat_u8' l]; rfl

theorem readP_files (D : Dq) (nm : ByteArray) : (readP D nm).2.2.files = D.files := by
  unfold readP
  repeat' split
  all_goals rfl

/-- What a step's call is handed. -/
structure DoesPre (w0 w : World) (d : Nat) (t : Wt) (D : Dq) (n : Nat) (x : Sp) : Prop where
  h : DkT w d t D
  hW : WD n D
  hn : n ≤ 100000
  hx : x.ok w0
  hw0 : Below w0.heap.size w0 w
  hlo : ∀ k, Dft d t D k → w0.heap.size ≤ k
  hsm : x.small

set_option maxRecDepth 100000 in
set_option maxHeartbeats 3200000 in
theorem does_create {w0 w : World} {d : Nat} {t : Wt} {D : Dq} {n : Nat} (x : Sp) (p : DoesPre w0 w d t D n x) (hk : x.kind = 1) :
    Calls Tryz.prog 10 #[.pointer (some ⟨d, 0, none⟩), .agg #[.int .i64 x.kind, .string x.name, .string x.to, x.dv, .int .i64 x.n, x.sv, x.rv, .int .i64 x.pn, x.fv]] w fun e w' => e = .returned (.int .i64 (createP D x.name).1) ∧ ∃ t', Goes d w t D w' t' (createP D x.name).2 := by
  obtain ⟨h, hW, hn, hx, hw0, hlo, hsm⟩ := p
  obtain ⟨kind, name, to, dv, data, nn, sv, gs, rv, gr, pn, fv, pk⟩ := x
  obtain ⟨-, -, hpn, hn1, hn2, hdt, hoct, hfs, -, hfr, -, hpk⟩ := hx
  obtain ⟨m1, m2, m3, m4, m5, m6, m7⟩ := hsm
  obtain ⟨a1, q1, e1, d1, d2⟩ := hdt.shape
  obtain ⟨a2, q2, e2, d3, d4⟩ := hfs.shape
  obtain ⟨a3, q3, e3, d5, d6⟩ := hfr.shape
  obtain ⟨a4, q4, e4, d7, d8⟩ := hpk.1.shape
  dsimp only at e1 e2 e3 e4 hn1 hn2 hk d1 d2 d3 d4 d5 d6 d7 d8 hdt hfs hfr hpk m1 m2 m3 m4 m5 m6 m7 hpn
  subst e1 e2 e3 e4
  dsimp only
  obtain rfl : kind = 1 := hk
  have hdt' : Rf w0 1 (.slice a1 data.length q1) data.length (B8 data) := by
    rw [← flat_u8']
    exact hdt
  have hb0 : Below w.heap.size w (w.alloc (.cells #[.int .i64 1, .string name, .string to, .slice a1 data.length q1, .int .i64 nn, .slice a2 gs.length q2, .slice a3 gr.length q3, .int .i64 pn, .slice a4 pk.length q4] 32)) := (Below.refl _ _).alloc (Nat.le_refl _) _
  have hbb : Below w0.heap.size w0 (w.alloc (.cells #[.int .i64 1, .string name, .string to, .slice a1 data.length q1, .int .i64 nn, .slice a2 gs.length q2, .slice a3 gr.length q3, .int .i64 pn, .slice a4 pk.length q4] 32)) := hw0.trans (hb0.mono hw0.size)
  have hZ := h.below hb0
  have hcall := create_dk hZ hW hn name hn1
  have H := hid h
  have HC := hid hcall
  clear h hW hcall hZ hlo hdt hdt' hfs hfr hpk hoct hbb hw0 m7
  go_enter Tryz.func10, Tryz.ntmps10
  go_wp2_with (
    go_at_call 20
    refine HC.out.mono ?_
    rintro e w2 ⟨rfl, hx⟩
    have HX := hid hx
    clear hx)
  go_ret
  obtain ⟨t', hg⟩ := HX.out
  exact ⟨rfl, t', (Goes.still H.out hb0).trans hg⟩


set_option maxRecDepth 100000 in
set_option maxHeartbeats 3200000 in
theorem does_app {w0 w : World} {d : Nat} {t : Wt} {D : Dq} {n : Nat} (x : Sp) (p : DoesPre w0 w d t D n x) (hk : x.kind = 2) :
    Calls Tryz.prog 10 #[.pointer (some ⟨d, 0, none⟩), .agg #[.int .i64 x.kind, .string x.name, .string x.to, x.dv, .int .i64 x.n, x.sv, x.rv, .int .i64 x.pn, x.fv]] w fun e w' => e = .returned (.int .i64 (appP D x.name x.data).1) ∧ ∃ t', Goes d w t D w' t' (appP D x.name x.data).2 := by
  obtain ⟨h, hW, hn, hx, hw0, hlo, hsm⟩ := p
  obtain ⟨kind, name, to, dv, data, nn, sv, gs, rv, gr, pn, fv, pk⟩ := x
  obtain ⟨-, -, hpn, hn1, hn2, hdt, hoct, hfs, -, hfr, -, hpk⟩ := hx
  obtain ⟨m1, m2, m3, m4, m5, m6, m7⟩ := hsm
  obtain ⟨a1, q1, e1, d1, d2⟩ := hdt.shape
  obtain ⟨a2, q2, e2, d3, d4⟩ := hfs.shape
  obtain ⟨a3, q3, e3, d5, d6⟩ := hfr.shape
  obtain ⟨a4, q4, e4, d7, d8⟩ := hpk.1.shape
  dsimp only at e1 e2 e3 e4 hn1 hn2 hk d1 d2 d3 d4 d5 d6 d7 d8 hdt hfs hfr hpk m1 m2 m3 m4 m5 m6 m7 hpn
  subst e1 e2 e3 e4
  dsimp only
  obtain rfl : kind = 2 := hk
  have hdt' : Rf w0 1 (.slice a1 data.length q1) data.length (B8 data) := by
    rw [← flat_u8']
    exact hdt
  have hb0 : Below w.heap.size w (w.alloc (.cells #[.int .i64 2, .string name, .string to, .slice a1 data.length q1, .int .i64 nn, .slice a2 gs.length q2, .slice a3 gr.length q3, .int .i64 pn, .slice a4 pk.length q4] 32)) := (Below.refl _ _).alloc (Nat.le_refl _) _
  have hbb : Below w0.heap.size w0 (w.alloc (.cells #[.int .i64 2, .string name, .string to, .slice a1 data.length q1, .int .i64 nn, .slice a2 gs.length q2, .slice a3 gr.length q3, .int .i64 pn, .slice a4 pk.length q4] 32)) := hw0.trans (hb0.mono hw0.size)
  have hZ := h.below hb0
  have hcall := app_dk hZ hW hn name hn1 a1 q1 data (hdt'.below hbb).sl.1 (fun hne k e e2 => by
    have := hdt'.blk (List.length_pos_iff.2 hne) (by omega) k e
    have := hlo d (.inl rfl)
    omega) (by omega)
  have H := hid h
  have HC := hid hcall
  clear h hW hcall hZ hlo hdt hdt' hfs hfr hpk hoct hbb hw0 m7
  go_enter Tryz.func10, Tryz.ntmps10
  go_wp2_with (
    go_at_call 22
    refine HC.out.mono ?_
    rintro e w2 ⟨rfl, hx⟩
    have HX := hid hx
    clear hx)
  go_ret
  obtain ⟨t', hg⟩ := HX.out
  exact ⟨rfl, t', (Goes.still H.out hb0).trans hg⟩


set_option maxRecDepth 100000 in
set_option maxHeartbeats 3200000 in
theorem does_cut {w0 w : World} {d : Nat} {t : Wt} {D : Dq} {n : Nat} (x : Sp) (p : DoesPre w0 w d t D n x) (hk : x.kind = 3) :
    Calls Tryz.prog 10 #[.pointer (some ⟨d, 0, none⟩), .agg #[.int .i64 x.kind, .string x.name, .string x.to, x.dv, .int .i64 x.n, x.sv, x.rv, .int .i64 x.pn, x.fv]] w fun e w' => e = .returned (.int .i64 (cutP D x.name x.n).1) ∧ ∃ t', Goes d w t D w' t' (cutP D x.name x.n).2 := by
  obtain ⟨h, hW, hn, hx, hw0, hlo, hsm⟩ := p
  obtain ⟨kind, name, to, dv, data, nn, sv, gs, rv, gr, pn, fv, pk⟩ := x
  obtain ⟨-, -, hpn, hn1, hn2, hdt, hoct, hfs, -, hfr, -, hpk⟩ := hx
  obtain ⟨m1, m2, m3, m4, m5, m6, m7⟩ := hsm
  obtain ⟨a1, q1, e1, d1, d2⟩ := hdt.shape
  obtain ⟨a2, q2, e2, d3, d4⟩ := hfs.shape
  obtain ⟨a3, q3, e3, d5, d6⟩ := hfr.shape
  obtain ⟨a4, q4, e4, d7, d8⟩ := hpk.1.shape
  dsimp only at e1 e2 e3 e4 hn1 hn2 hk d1 d2 d3 d4 d5 d6 d7 d8 hdt hfs hfr hpk m1 m2 m3 m4 m5 m6 m7 hpn
  subst e1 e2 e3 e4
  dsimp only
  obtain rfl : kind = 3 := hk
  have hdt' : Rf w0 1 (.slice a1 data.length q1) data.length (B8 data) := by
    rw [← flat_u8']
    exact hdt
  have hb0 : Below w.heap.size w (w.alloc (.cells #[.int .i64 3, .string name, .string to, .slice a1 data.length q1, .int .i64 nn, .slice a2 gs.length q2, .slice a3 gr.length q3, .int .i64 pn, .slice a4 pk.length q4] 32)) := (Below.refl _ _).alloc (Nat.le_refl _) _
  have hbb : Below w0.heap.size w0 (w.alloc (.cells #[.int .i64 3, .string name, .string to, .slice a1 data.length q1, .int .i64 nn, .slice a2 gs.length q2, .slice a3 gr.length q3, .int .i64 pn, .slice a4 pk.length q4] 32)) := hw0.trans (hb0.mono hw0.size)
  have hZ := h.below hb0
  have hcall := cut_dk hZ hW hn name hn1 nn
  have H := hid h
  have HC := hid hcall
  clear h hW hcall hZ hlo hdt hdt' hfs hfr hpk hoct hbb hw0 m7
  go_enter Tryz.func10, Tryz.ntmps10
  go_wp2_with (
    go_at_call 35
    refine HC.out.mono ?_
    rintro e w2 ⟨rfl, hx⟩
    have HX := hid hx
    clear hx)
  go_ret
  obtain ⟨t', hg⟩ := HX.out
  exact ⟨rfl, t', (Goes.still H.out hb0).trans hg⟩


set_option maxRecDepth 100000 in
set_option maxHeartbeats 3200000 in
theorem does_sync {w0 w : World} {d : Nat} {t : Wt} {D : Dq} {n : Nat} (x : Sp) (p : DoesPre w0 w d t D n x) (hk : x.kind = 4) :
    Calls Tryz.prog 10 #[.pointer (some ⟨d, 0, none⟩), .agg #[.int .i64 x.kind, .string x.name, .string x.to, x.dv, .int .i64 x.n, x.sv, x.rv, .int .i64 x.pn, x.fv]] w fun e w' => e = .returned (.int .i64 (syncP D x.name).1) ∧ ∃ t', Goes d w t D w' t' (syncP D x.name).2 := by
  obtain ⟨h, hW, hn, hx, hw0, hlo, hsm⟩ := p
  obtain ⟨kind, name, to, dv, data, nn, sv, gs, rv, gr, pn, fv, pk⟩ := x
  obtain ⟨-, -, hpn, hn1, hn2, hdt, hoct, hfs, -, hfr, -, hpk⟩ := hx
  obtain ⟨m1, m2, m3, m4, m5, m6, m7⟩ := hsm
  obtain ⟨a1, q1, e1, d1, d2⟩ := hdt.shape
  obtain ⟨a2, q2, e2, d3, d4⟩ := hfs.shape
  obtain ⟨a3, q3, e3, d5, d6⟩ := hfr.shape
  obtain ⟨a4, q4, e4, d7, d8⟩ := hpk.1.shape
  dsimp only at e1 e2 e3 e4 hn1 hn2 hk d1 d2 d3 d4 d5 d6 d7 d8 hdt hfs hfr hpk m1 m2 m3 m4 m5 m6 m7 hpn
  subst e1 e2 e3 e4
  dsimp only
  obtain rfl : kind = 4 := hk
  have hdt' : Rf w0 1 (.slice a1 data.length q1) data.length (B8 data) := by
    rw [← flat_u8']
    exact hdt
  have hb0 : Below w.heap.size w (w.alloc (.cells #[.int .i64 4, .string name, .string to, .slice a1 data.length q1, .int .i64 nn, .slice a2 gs.length q2, .slice a3 gr.length q3, .int .i64 pn, .slice a4 pk.length q4] 32)) := (Below.refl _ _).alloc (Nat.le_refl _) _
  have hbb : Below w0.heap.size w0 (w.alloc (.cells #[.int .i64 4, .string name, .string to, .slice a1 data.length q1, .int .i64 nn, .slice a2 gs.length q2, .slice a3 gr.length q3, .int .i64 pn, .slice a4 pk.length q4] 32)) := hw0.trans (hb0.mono hw0.size)
  have hZ := h.below hb0
  have hcall := sync_dk hZ hW hn name hn1
  have H := hid h
  have HC := hid hcall
  clear h hW hcall hZ hlo hdt hdt' hfs hfr hpk hoct hbb hw0 m7
  go_enter Tryz.func10, Tryz.ntmps10
  go_wp2_with (
    go_at_call 17
    refine HC.out.mono ?_
    rintro e w2 ⟨rfl, hx⟩
    have HX := hid hx
    clear hx)
  go_ret
  obtain ⟨t', hg⟩ := HX.out
  exact ⟨rfl, t', (Goes.still H.out hb0).trans hg⟩


set_option maxRecDepth 100000 in
set_option maxHeartbeats 3200000 in
theorem does_names {w0 w : World} {d : Nat} {t : Wt} {D : Dq} {n : Nat} (x : Sp) (p : DoesPre w0 w d t D n x) (hk : x.kind = 5) :
    Calls Tryz.prog 10 #[.pointer (some ⟨d, 0, none⟩), .agg #[.int .i64 x.kind, .string x.name, .string x.to, x.dv, .int .i64 x.n, x.sv, x.rv, .int .i64 x.pn, x.fv]] w fun e w' => e = .returned (.int .i64 (syncNP D).1) ∧ ∃ t', Goes d w t D w' t' (syncNP D).2 := by
  obtain ⟨h, hW, hn, hx, hw0, hlo, hsm⟩ := p
  obtain ⟨kind, name, to, dv, data, nn, sv, gs, rv, gr, pn, fv, pk⟩ := x
  obtain ⟨-, -, hpn, hn1, hn2, hdt, hoct, hfs, -, hfr, -, hpk⟩ := hx
  obtain ⟨m1, m2, m3, m4, m5, m6, m7⟩ := hsm
  obtain ⟨a1, q1, e1, d1, d2⟩ := hdt.shape
  obtain ⟨a2, q2, e2, d3, d4⟩ := hfs.shape
  obtain ⟨a3, q3, e3, d5, d6⟩ := hfr.shape
  obtain ⟨a4, q4, e4, d7, d8⟩ := hpk.1.shape
  dsimp only at e1 e2 e3 e4 hn1 hn2 hk d1 d2 d3 d4 d5 d6 d7 d8 hdt hfs hfr hpk m1 m2 m3 m4 m5 m6 m7 hpn
  subst e1 e2 e3 e4
  dsimp only
  obtain rfl : kind = 5 := hk
  have hdt' : Rf w0 1 (.slice a1 data.length q1) data.length (B8 data) := by
    rw [← flat_u8']
    exact hdt
  have hb0 : Below w.heap.size w (w.alloc (.cells #[.int .i64 5, .string name, .string to, .slice a1 data.length q1, .int .i64 nn, .slice a2 gs.length q2, .slice a3 gr.length q3, .int .i64 pn, .slice a4 pk.length q4] 32)) := (Below.refl _ _).alloc (Nat.le_refl _) _
  have hbb : Below w0.heap.size w0 (w.alloc (.cells #[.int .i64 5, .string name, .string to, .slice a1 data.length q1, .int .i64 nn, .slice a2 gs.length q2, .slice a3 gr.length q3, .int .i64 pn, .slice a4 pk.length q4] 32)) := hw0.trans (hb0.mono hw0.size)
  have hZ := h.below hb0
  have hcall := syncN_dk hZ hW hn
  have H := hid h
  have HC := hid hcall
  clear h hW hcall hZ hlo hdt hdt' hfs hfr hpk hoct hbb hw0 m7
  go_enter Tryz.func10, Tryz.ntmps10
  go_wp2_with (
    go_at_call 18
    refine HC.out.mono ?_
    rintro e w2 ⟨rfl, hx⟩
    have HX := hid hx
    clear hx)
  go_ret
  obtain ⟨t', hg⟩ := HX.out
  exact ⟨rfl, t', (Goes.still H.out hb0).trans hg⟩


set_option maxRecDepth 100000 in
set_option maxHeartbeats 3200000 in
theorem does_ren {w0 w : World} {d : Nat} {t : Wt} {D : Dq} {n : Nat} (x : Sp) (p : DoesPre w0 w d t D n x) (hk : x.kind = 6) :
    Calls Tryz.prog 10 #[.pointer (some ⟨d, 0, none⟩), .agg #[.int .i64 x.kind, .string x.name, .string x.to, x.dv, .int .i64 x.n, x.sv, x.rv, .int .i64 x.pn, x.fv]] w fun e w' => e = .returned (.int .i64 (renP D x.name x.to).1) ∧ ∃ t', Goes d w t D w' t' (renP D x.name x.to).2 := by
  obtain ⟨h, hW, hn, hx, hw0, hlo, hsm⟩ := p
  obtain ⟨kind, name, to, dv, data, nn, sv, gs, rv, gr, pn, fv, pk⟩ := x
  obtain ⟨-, -, hpn, hn1, hn2, hdt, hoct, hfs, -, hfr, -, hpk⟩ := hx
  obtain ⟨m1, m2, m3, m4, m5, m6, m7⟩ := hsm
  obtain ⟨a1, q1, e1, d1, d2⟩ := hdt.shape
  obtain ⟨a2, q2, e2, d3, d4⟩ := hfs.shape
  obtain ⟨a3, q3, e3, d5, d6⟩ := hfr.shape
  obtain ⟨a4, q4, e4, d7, d8⟩ := hpk.1.shape
  dsimp only at e1 e2 e3 e4 hn1 hn2 hk d1 d2 d3 d4 d5 d6 d7 d8 hdt hfs hfr hpk m1 m2 m3 m4 m5 m6 m7 hpn
  subst e1 e2 e3 e4
  dsimp only
  obtain rfl : kind = 6 := hk
  have hdt' : Rf w0 1 (.slice a1 data.length q1) data.length (B8 data) := by
    rw [← flat_u8']
    exact hdt
  have hb0 : Below w.heap.size w (w.alloc (.cells #[.int .i64 6, .string name, .string to, .slice a1 data.length q1, .int .i64 nn, .slice a2 gs.length q2, .slice a3 gr.length q3, .int .i64 pn, .slice a4 pk.length q4] 32)) := (Below.refl _ _).alloc (Nat.le_refl _) _
  have hbb : Below w0.heap.size w0 (w.alloc (.cells #[.int .i64 6, .string name, .string to, .slice a1 data.length q1, .int .i64 nn, .slice a2 gs.length q2, .slice a3 gr.length q3, .int .i64 pn, .slice a4 pk.length q4] 32)) := hw0.trans (hb0.mono hw0.size)
  have hZ := h.below hb0
  have hcall := ren_dk hZ hW hn name to hn1 hn2
  have H := hid h
  have HC := hid hcall
  clear h hW hcall hZ hlo hdt hdt' hfs hfr hpk hoct hbb hw0 m7
  go_enter Tryz.func10, Tryz.ntmps10
  go_wp2_with (
    go_at_call 23
    refine HC.out.mono ?_
    rintro e w2 ⟨rfl, hx⟩
    have HX := hid hx
    clear hx)
  go_ret
  obtain ⟨t', hg⟩ := HX.out
  exact ⟨rfl, t', (Goes.still H.out hb0).trans hg⟩


set_option maxRecDepth 100000 in
set_option maxHeartbeats 3200000 in
theorem does_rem {w0 w : World} {d : Nat} {t : Wt} {D : Dq} {n : Nat} (x : Sp) (p : DoesPre w0 w d t D n x) (hk : x.kind = 7) :
    Calls Tryz.prog 10 #[.pointer (some ⟨d, 0, none⟩), .agg #[.int .i64 x.kind, .string x.name, .string x.to, x.dv, .int .i64 x.n, x.sv, x.rv, .int .i64 x.pn, x.fv]] w fun e w' => e = .returned (.int .i64 (remP D x.name).1) ∧ ∃ t', Goes d w t D w' t' (remP D x.name).2 := by
  obtain ⟨h, hW, hn, hx, hw0, hlo, hsm⟩ := p
  obtain ⟨kind, name, to, dv, data, nn, sv, gs, rv, gr, pn, fv, pk⟩ := x
  obtain ⟨-, -, hpn, hn1, hn2, hdt, hoct, hfs, -, hfr, -, hpk⟩ := hx
  obtain ⟨m1, m2, m3, m4, m5, m6, m7⟩ := hsm
  obtain ⟨a1, q1, e1, d1, d2⟩ := hdt.shape
  obtain ⟨a2, q2, e2, d3, d4⟩ := hfs.shape
  obtain ⟨a3, q3, e3, d5, d6⟩ := hfr.shape
  obtain ⟨a4, q4, e4, d7, d8⟩ := hpk.1.shape
  dsimp only at e1 e2 e3 e4 hn1 hn2 hk d1 d2 d3 d4 d5 d6 d7 d8 hdt hfs hfr hpk m1 m2 m3 m4 m5 m6 m7 hpn
  subst e1 e2 e3 e4
  dsimp only
  obtain rfl : kind = 7 := hk
  have hdt' : Rf w0 1 (.slice a1 data.length q1) data.length (B8 data) := by
    rw [← flat_u8']
    exact hdt
  have hb0 : Below w.heap.size w (w.alloc (.cells #[.int .i64 7, .string name, .string to, .slice a1 data.length q1, .int .i64 nn, .slice a2 gs.length q2, .slice a3 gr.length q3, .int .i64 pn, .slice a4 pk.length q4] 32)) := (Below.refl _ _).alloc (Nat.le_refl _) _
  have hbb : Below w0.heap.size w0 (w.alloc (.cells #[.int .i64 7, .string name, .string to, .slice a1 data.length q1, .int .i64 nn, .slice a2 gs.length q2, .slice a3 gr.length q3, .int .i64 pn, .slice a4 pk.length q4] 32)) := hw0.trans (hb0.mono hw0.size)
  have hZ := h.below hb0
  have hcall := rem_dk hZ hW hn name hn1
  have H := hid h
  have HC := hid hcall
  clear h hW hcall hZ hlo hdt hdt' hfs hfr hpk hoct hbb hw0 m7
  go_enter Tryz.func10, Tryz.ntmps10
  go_wp2_with (
    go_at_call 24
    refine HC.out.mono ?_
    rintro e w2 ⟨rfl, hx⟩
    have HX := hid hx
    clear hx)
  go_ret
  obtain ⟨t', hg⟩ := HX.out
  exact ⟨rfl, t', (Goes.still H.out hb0).trans hg⟩


set_option maxRecDepth 100000 in
set_option maxHeartbeats 3200000 in
theorem does_read {w0 w : World} {d : Nat} {t : Wt} {D : Dq} {n : Nat} (x : Sp) (p : DoesPre w0 w d t D n x) (hk : x.kind = 8) :
    Calls Tryz.prog 10 #[.pointer (some ⟨d, 0, none⟩), .agg #[.int .i64 x.kind, .string x.name, .string x.to, x.dv, .int .i64 x.n, x.sv, x.rv, .int .i64 x.pn, x.fv]] w fun e w' => e = .returned (.int .i64 ((readP D x.name).2.1, (readP D x.name).2.2).1) ∧ ∃ t', Goes d w t D w' t' ((readP D x.name).2.1, (readP D x.name).2.2).2 := by
  obtain ⟨h, hW, hn, hx, hw0, hlo, hsm⟩ := p
  obtain ⟨kind, name, to, dv, data, nn, sv, gs, rv, gr, pn, fv, pk⟩ := x
  obtain ⟨-, -, hpn, hn1, hn2, hdt, hoct, hfs, -, hfr, -, hpk⟩ := hx
  obtain ⟨m1, m2, m3, m4, m5, m6, m7⟩ := hsm
  obtain ⟨a1, q1, e1, d1, d2⟩ := hdt.shape
  obtain ⟨a2, q2, e2, d3, d4⟩ := hfs.shape
  obtain ⟨a3, q3, e3, d5, d6⟩ := hfr.shape
  obtain ⟨a4, q4, e4, d7, d8⟩ := hpk.1.shape
  dsimp only at e1 e2 e3 e4 hn1 hn2 hk d1 d2 d3 d4 d5 d6 d7 d8 hdt hfs hfr hpk m1 m2 m3 m4 m5 m6 m7 hpn
  subst e1 e2 e3 e4
  dsimp only
  obtain rfl : kind = 8 := hk
  have hdt' : Rf w0 1 (.slice a1 data.length q1) data.length (B8 data) := by
    rw [← flat_u8']
    exact hdt
  have hb0 : Below w.heap.size w (w.alloc (.cells #[.int .i64 8, .string name, .string to, .slice a1 data.length q1, .int .i64 nn, .slice a2 gs.length q2, .slice a3 gr.length q3, .int .i64 pn, .slice a4 pk.length q4] 32)) := (Below.refl _ _).alloc (Nat.le_refl _) _
  have hbb : Below w0.heap.size w0 (w.alloc (.cells #[.int .i64 8, .string name, .string to, .slice a1 data.length q1, .int .i64 nn, .slice a2 gs.length q2, .slice a3 gr.length q3, .int .i64 pn, .slice a4 pk.length q4] 32)) := hw0.trans (hb0.mono hw0.size)
  have hZ := h.below hb0
  have hcall := read_dk hZ hW hn name hn1
  have H := hid h
  have HC := hid hcall
  clear h hW hcall hZ hlo hdt hdt' hfs hfr hpk hoct hbb hw0 m7
  go_enter Tryz.func10, Tryz.ntmps10
  go_wp2_with (
    go_at_call 27
    refine HC.out.mono ?_
    rintro e w2 ⟨v, rfl, hnb, hd2, hk2⟩
    have HX := hid (And.intro hd2 hk2)
    clear hnb hd2 hk2)
  go_ret
  obtain ⟨hd2, hk2⟩ := HX.out
  exact ⟨rfl, t, (Goes.still H.out hb0).trans ((H.out.below hb0).goes hd2 hk2 (readP_files D name))⟩


set_option maxRecDepth 100000 in
set_option maxHeartbeats 3200000 in
theorem does_plan {w0 w : World} {d : Nat} {t : Wt} {D : Dq} {n : Nat} (x : Sp) (p : DoesPre w0 w d t D n x) (hk : x.kind = 9) :
    Calls Tryz.prog 10 #[.pointer (some ⟨d, 0, none⟩), .agg #[.int .i64 x.kind, .string x.name, .string x.to, x.dv, .int .i64 x.n, x.sv, x.rv, .int .i64 x.pn, x.fv]] w fun e w' => e = .returned (.int .i64 ((0 : Int), planD x.fs x.fr D).1) ∧ ∃ t', Goes d w t D w' t' ((0 : Int), planD x.fs x.fr D).2 := by
  obtain ⟨h, hW, hn, hx, hw0, hlo, hsm⟩ := p
  obtain ⟨kind, name, to, dv, data, nn, sv, gs, rv, gr, pn, fv, pk⟩ := x
  obtain ⟨-, -, hpn, hn1, hn2, hdt, hoct, hfs, -, hfr, -, hpk⟩ := hx
  obtain ⟨m1, m2, m3, m4, m5, m6, m7⟩ := hsm
  obtain ⟨a1, q1, e1, d1, d2⟩ := hdt.shape
  obtain ⟨a2, q2, e2, d3, d4⟩ := hfs.shape
  obtain ⟨a3, q3, e3, d5, d6⟩ := hfr.shape
  obtain ⟨a4, q4, e4, d7, d8⟩ := hpk.1.shape
  dsimp only at e1 e2 e3 e4 hn1 hn2 hk d1 d2 d3 d4 d5 d6 d7 d8 hdt hfs hfr hpk m1 m2 m3 m4 m5 m6 m7 hpn
  subst e1 e2 e3 e4
  dsimp only
  obtain rfl : kind = 9 := hk
  have hdt' : Rf w0 1 (.slice a1 data.length q1) data.length (B8 data) := by
    rw [← flat_u8']
    exact hdt
  have hb0 : Below w.heap.size w (w.alloc (.cells #[.int .i64 9, .string name, .string to, .slice a1 data.length q1, .int .i64 nn, .slice a2 gs.length q2, .slice a3 gr.length q3, .int .i64 pn, .slice a4 pk.length q4] 32)) := (Below.refl _ _).alloc (Nat.le_refl _) _
  have hbb : Below w0.heap.size w0 (w.alloc (.cells #[.int .i64 9, .string name, .string to, .slice a1 data.length q1, .int .i64 nn, .slice a2 gs.length q2, .slice a3 gr.length q3, .int .i64 pn, .slice a4 pk.length q4] 32)) := hw0.trans (hb0.mono hw0.size)
  have hZ := h.below hb0
  have hcall := plan_dk hZ (.slice a2 gs.length q2) (.slice a3 gr.length q3) gs gr (Rf.below hfs hbb) (Rf.below hfr hbb) m4 m5 (fun hne e => by
    have := Rf.blk hfr (List.length_pos_iff.2 hne) (by omega) d e
    have := hlo d (.inl rfl)
    omega)
  have H := hid h
  have HC := hid hcall
  clear h hW hcall hZ hlo hdt hdt' hfs hfr hpk hoct hbb hw0 m7
  go_enter Tryz.func10, Tryz.ntmps10
  go_wp2_with (
    go_at_call 15
    refine HC.out.mono ?_
    rintro e w2 ⟨rfl, t', hg, hk2⟩
    have HX := hid hg
    clear hg hk2)
  go_ret
  exact ⟨rfl, t', (Goes.still H.out hb0).trans HX.out⟩


set_option maxRecDepth 100000 in
set_option maxHeartbeats 3200000 in
theorem does_crash {w0 w : World} {d : Nat} {t : Wt} {D : Dq} {n : Nat} (x : Sp) (p : DoesPre w0 w d t D n x) (hk : x.kind = 10) :
    Calls Tryz.prog 10 #[.pointer (some ⟨d, 0, none⟩), .agg #[.int .i64 x.kind, .string x.name, .string x.to, x.dv, .int .i64 x.n, x.sv, x.rv, .int .i64 x.pn, x.fv]] w fun e w' => e = .returned (.int .i64 ((0 : Int), (crashP x.pn (pksOf x.pk) D).2).1) ∧ ∃ t', Goes d w t D w' t' ((0 : Int), (crashP x.pn (pksOf x.pk) D).2).2 := by
  obtain ⟨h, hW, hn, hx, hw0, hlo, hsm⟩ := p
  obtain ⟨kind, name, to, dv, data, nn, sv, gs, rv, gr, pn, fv, pk⟩ := x
  obtain ⟨-, -, hpn, hn1, hn2, hdt, hoct, hfs, -, hfr, -, hpk⟩ := hx
  obtain ⟨m1, m2, m3, m4, m5, m6, m7⟩ := hsm
  obtain ⟨a1, q1, e1, d1, d2⟩ := hdt.shape
  obtain ⟨a2, q2, e2, d3, d4⟩ := hfs.shape
  obtain ⟨a3, q3, e3, d5, d6⟩ := hfr.shape
  obtain ⟨a4, q4, e4, d7, d8⟩ := hpk.1.shape
  dsimp only at e1 e2 e3 e4 hn1 hn2 hk d1 d2 d3 d4 d5 d6 d7 d8 hdt hfs hfr hpk m1 m2 m3 m4 m5 m6 m7 hpn
  subst e1 e2 e3 e4
  dsimp only
  obtain rfl : kind = 10 := hk
  have hdt' : Rf w0 1 (.slice a1 data.length q1) data.length (B8 data) := by
    rw [← flat_u8']
    exact hdt
  have hb0 : Below w.heap.size w (w.alloc (.cells #[.int .i64 10, .string name, .string to, .slice a1 data.length q1, .int .i64 nn, .slice a2 gs.length q2, .slice a3 gr.length q3, .int .i64 pn, .slice a4 pk.length q4] 32)) := (Below.refl _ _).alloc (Nat.le_refl _) _
  have hbb : Below w0.heap.size w0 (w.alloc (.cells #[.int .i64 10, .string name, .string to, .slice a1 data.length q1, .int .i64 nn, .slice a2 gs.length q2, .slice a3 gr.length q3, .int .i64 pn, .slice a4 pk.length q4] 32)) := hw0.trans (hb0.mono hw0.size)
  have hZ := h.below hb0
  have hcall := crash_dk hZ hW hn pn hpn (.slice a4 pk.length q4) pk ⟨Rf.below hpk.1 hbb, fun p hp => ⟨(hpk.2 p hp).1, Rf.below (hpk.2 p hp).2.1 hbb, (hpk.2 p hp).2.2.1, (hpk.2 p hp).2.2.2⟩⟩ (by omega) (fun p hp => by have := m7 p hp; omega) (fun k e hD => by
    have h9 := hlo k hD
    rcases e with ⟨h0, e⟩ | ⟨p, hp, h0, e⟩
    · have := Rf.blk hpk.1 h0 (by omega) k e
      omega
    · have := Rf.blk (hpk.2 p hp).2.1 h0 (by omega) k e
      omega)
  have H := hid h
  have HC := hid hcall
  clear h hW hcall hZ hlo hdt hdt' hfs hfr hpk hoct hbb hw0 m7
  go_enter Tryz.func10, Tryz.ntmps10
  go_wp2_with (
    go_at_call 12
    refine HC.out.mono ?_
    rintro e w2 ⟨v, t', rfl, hfb, hg⟩
    have HX := hid hg
    clear hg hfb)
  go_ret
  exact ⟨rfl, t', (Goes.still H.out hb0).trans HX.out⟩


set_option maxRecDepth 100000 in
set_option maxHeartbeats 3200000 in
theorem does_hand {w0 w : World} {d : Nat} {t : Wt} {D : Dq} {n : Nat} (x : Sp) (p : DoesPre w0 w d t D n x) (hk : x.kind = 11) :
    Calls Tryz.prog 10 #[.pointer (some ⟨d, 0, none⟩), .agg #[.int .i64 x.kind, .string x.name, .string x.to, x.dv, .int .i64 x.n, x.sv, x.rv, .int .i64 x.pn, x.fv]] w fun e w' => e = .returned (.int .i64 (handP D x.name x.data).1) ∧ ∃ t', Goes d w t D w' t' (handP D x.name x.data).2 := by
  obtain ⟨h, hW, hn, hx, hw0, hlo, hsm⟩ := p
  obtain ⟨kind, name, to, dv, data, nn, sv, gs, rv, gr, pn, fv, pk⟩ := x
  obtain ⟨-, -, hpn, hn1, hn2, hdt, hoct, hfs, -, hfr, -, hpk⟩ := hx
  obtain ⟨m1, m2, m3, m4, m5, m6, m7⟩ := hsm
  obtain ⟨a1, q1, e1, d1, d2⟩ := hdt.shape
  obtain ⟨a2, q2, e2, d3, d4⟩ := hfs.shape
  obtain ⟨a3, q3, e3, d5, d6⟩ := hfr.shape
  obtain ⟨a4, q4, e4, d7, d8⟩ := hpk.1.shape
  dsimp only at e1 e2 e3 e4 hn1 hn2 hk d1 d2 d3 d4 d5 d6 d7 d8 hdt hfs hfr hpk m1 m2 m3 m4 m5 m6 m7 hpn
  subst e1 e2 e3 e4
  dsimp only
  obtain rfl : kind = 11 := hk
  have hdt' : Rf w0 1 (.slice a1 data.length q1) data.length (B8 data) := by
    rw [← flat_u8']
    exact hdt
  have hb0 : Below w.heap.size w (w.alloc (.cells #[.int .i64 11, .string name, .string to, .slice a1 data.length q1, .int .i64 nn, .slice a2 gs.length q2, .slice a3 gr.length q3, .int .i64 pn, .slice a4 pk.length q4] 32)) := (Below.refl _ _).alloc (Nat.le_refl _) _
  have hbb : Below w0.heap.size w0 (w.alloc (.cells #[.int .i64 11, .string name, .string to, .slice a1 data.length q1, .int .i64 nn, .slice a2 gs.length q2, .slice a3 gr.length q3, .int .i64 pn, .slice a4 pk.length q4] 32)) := hw0.trans (hb0.mono hw0.size)
  have hZ := h.below hb0
  have hcall := hand_dk hZ hW hn name hn1 a1 q1 data (hdt'.below hbb).sl.1 (fun hne k e hD => by
    have := hdt'.blk (List.length_pos_iff.2 hne) (by omega) k e
    have := hlo k hD
    omega) (by omega)
  have H := hid h
  have HC := hid hcall
  clear h hW hcall hZ hlo hdt hdt' hfs hfr hpk hoct hbb hw0 m7
  go_enter Tryz.func10, Tryz.ntmps10
  go_wp2_with (
    go_at_call 36
    refine HC.out.mono ?_
    rintro e w2 ⟨rfl, hx⟩
    have HX := hid hx
    clear hx)
  go_ret
  obtain ⟨t', hg⟩ := HX.out
  exact ⟨rfl, t', (Goes.still H.out hb0).trans hg⟩


set_option maxRecDepth 100000 in
set_option maxHeartbeats 3200000 in
theorem does_other {w0 w : World} {d : Nat} {t : Wt} {D : Dq} {n : Nat} (x : Sp) (p : DoesPre w0 w d t D n x) (hk : x.kind < 1 ∨ 11 < x.kind) :
    Calls Tryz.prog 10 #[.pointer (some ⟨d, 0, none⟩), .agg #[.int .i64 x.kind, .string x.name, .string x.to, x.dv, .int .i64 x.n, x.sv, x.rv, .int .i64 x.pn, x.fv]] w fun e w' => e = .returned (.int .i64 ((0 : Int), D).1) ∧ ∃ t', Goes d w t D w' t' ((0 : Int), D).2 := by
  obtain ⟨h, hW, hn, hx, hw0, hlo, hsm⟩ := p
  obtain ⟨kind, name, to, dv, data, nn, sv, gs, rv, gr, pn, fv, pk⟩ := x
  obtain ⟨-, -, hpn, hn1, hn2, hdt, hoct, hfs, -, hfr, -, hpk⟩ := hx
  obtain ⟨m1, m2, m3, m4, m5, m6, m7⟩ := hsm
  obtain ⟨a1, q1, e1, d1, d2⟩ := hdt.shape
  obtain ⟨a2, q2, e2, d3, d4⟩ := hfs.shape
  obtain ⟨a3, q3, e3, d5, d6⟩ := hfr.shape
  obtain ⟨a4, q4, e4, d7, d8⟩ := hpk.1.shape
  dsimp only at e1 e2 e3 e4 hn1 hn2 hk d1 d2 d3 d4 d5 d6 d7 d8 hdt hfs hfr hpk m1 m2 m3 m4 m5 m6 m7 hpn
  subst e1 e2 e3 e4
  dsimp only
  have g1 : ¬ kind = 1 := by omega
  have g2 : ¬ kind = 2 := by omega
  have g3 : ¬ kind = 3 := by omega
  have g4 : ¬ kind = 4 := by omega
  have g5 : ¬ kind = 5 := by omega
  have g6 : ¬ kind = 6 := by omega
  have g7 : ¬ kind = 7 := by omega
  have g8 : ¬ kind = 8 := by omega
  have g9 : ¬ kind = 9 := by omega
  have g10 : ¬ kind = 10 := by omega
  have g11 : ¬ kind = 11 := by omega
  clear hk
  have hdt' : Rf w0 1 (.slice a1 data.length q1) data.length (B8 data) := by
    rw [← flat_u8']
    exact hdt
  have hb0 : Below w.heap.size w (w.alloc (.cells #[.int .i64 kind, .string name, .string to, .slice a1 data.length q1, .int .i64 nn, .slice a2 gs.length q2, .slice a3 gr.length q3, .int .i64 pn, .slice a4 pk.length q4] 32)) := (Below.refl _ _).alloc (Nat.le_refl _) _
  have hbb : Below w0.heap.size w0 (w.alloc (.cells #[.int .i64 kind, .string name, .string to, .slice a1 data.length q1, .int .i64 nn, .slice a2 gs.length q2, .slice a3 gr.length q3, .int .i64 pn, .slice a4 pk.length q4] 32)) := hw0.trans (hb0.mono hw0.size)
  have hZ := h.below hb0
  have hcall := True.intro
  have H := hid h
  have HC := hid hcall
  clear h hW hcall hZ hlo hdt hdt' hfs hfr hpk hoct hbb hw0 m7
  go_enter Tryz.func10, Tryz.ntmps10
  go_wp2
  go_ret
  exact ⟨rfl, t, Goes.still H.out hb0⟩


theorem does_dk {w0 w : World} {d : Nat} {t : Wt} {D : Dq} {n : Nat} (x : Sp) (p : DoesPre w0 w d t D n x) :
    Calls Tryz.prog 10 #[.pointer (some ⟨d, 0, none⟩), .agg #[.int .i64 x.kind, .string x.name, .string x.to, x.dv, .int .i64 x.n, x.sv, x.rv, .int .i64 x.pn, x.fv]] w fun e w' => e = .returned (.int .i64 (doesP x D).1) ∧ ∃ t', Goes d w t D w' t' (doesP x D).2 := by
  by_cases k1 : x.kind = 1
  · have := does_create x p k1; simpa only [doesP, k1, if_true] using this
  by_cases k2 : x.kind = 2
  · have := does_app x p k2; unfold doesP; rw [if_neg k1, if_pos k2]; exact this
  by_cases k3 : x.kind = 3
  · have := does_cut x p k3; unfold doesP; rw [if_neg k1, if_neg k2, if_pos k3]; exact this
  by_cases k4 : x.kind = 4
  · have := does_sync x p k4; unfold doesP; rw [if_neg k1, if_neg k2, if_neg k3, if_pos k4]; exact this
  by_cases k5 : x.kind = 5
  · have := does_names x p k5; unfold doesP; rw [if_neg k1, if_neg k2, if_neg k3, if_neg k4, if_pos k5]; exact this
  by_cases k6 : x.kind = 6
  · have := does_ren x p k6; unfold doesP; rw [if_neg k1, if_neg k2, if_neg k3, if_neg k4, if_neg k5, if_pos k6]; exact this
  by_cases k7 : x.kind = 7
  · have := does_rem x p k7; unfold doesP; rw [if_neg k1, if_neg k2, if_neg k3, if_neg k4, if_neg k5, if_neg k6, if_pos k7]; exact this
  by_cases k8 : x.kind = 8
  · have := does_read x p k8; unfold doesP; rw [if_neg k1, if_neg k2, if_neg k3, if_neg k4, if_neg k5, if_neg k6, if_neg k7, if_pos k8]; exact this
  by_cases k9 : x.kind = 9
  · have := does_plan x p k9; unfold doesP; rw [if_neg k1, if_neg k2, if_neg k3, if_neg k4, if_neg k5, if_neg k6, if_neg k7, if_neg k8, if_pos k9]; exact this
  by_cases k10 : x.kind = 10
  · have := does_crash x p k10; unfold doesP; rw [if_neg k1, if_neg k2, if_neg k3, if_neg k4, if_neg k5, if_neg k6, if_neg k7, if_neg k8, if_neg k9, if_pos k10]; exact this
  by_cases k11 : x.kind = 11
  · have := does_hand x p k11; unfold doesP; rw [if_neg k1, if_neg k2, if_neg k3, if_neg k4, if_neg k5, if_neg k6, if_neg k7, if_neg k8, if_neg k9, if_neg k10, if_pos k11]; exact this
  have := does_other x p (by omega)
  unfold doesP
  rw [if_neg k1, if_neg k2, if_neg k3, if_neg k4, if_neg k5, if_neg k6, if_neg k7, if_neg k8, if_neg k9, if_neg k10, if_neg k11]
  exact this

end Go.Proofs.YtlmompdfombgeabGreat
