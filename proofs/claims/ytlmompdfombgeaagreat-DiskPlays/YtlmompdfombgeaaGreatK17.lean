import Derived.Test.YtlmompdfombgeaaGreatK16
namespace Go.Proofs.YtlmompdfombgeaaGreat
open Go.RowKit Go.MapKept

set_option maxRecDepth 100000 in
set_option maxHeartbeats 1600000 in
theorem add_anyE (d : Nat) (v : Value) (bs : List Int) (w : World) (room limit : Int) (L : Nat) (made : Int) (N F vn : Value) (off : Bool) (st : Int) (k1 : Value) (rd : Int) (k2 : Value) (es : Array MapEntry) (c : Nat)
    (hD : DiskB w d room limit (.map (some L)) made N F vn off st k1 rd k2) (hL : w.heap[L]? = some (.map es c)) (hf : Instr.findNow (.int .i64) (.int .i64 (made + 1)) es.toList 0 = some none) (hm0 : 0 ≤ made) (hm : made ≤ 1000000000) (h : Sl w v bs) (hl : bs.length ≤ 1000000000) (hvd : bs ≠ [] → ∀ k, v.ownBlock = some k → k ≠ d) :
    Calls Tryz.prog 79 #[.pointer (some ⟨d, 0, none⟩), v] w fun x w' => x = .returned (.int .i64 (made + 1)) ∧ ∃ p vs vd vf, w.heap.size ≤ p ∧ FileAt w' w.heap.size p bs [] bs (List.replicate bs.length false) bs.length vs (.slice none 0 0) vd vf ∧
      DiskB w' d room limit (.map (some L)) (made + 1) N F vn off st k1 rd k2 ∧ w'.heap[L]? = some (.map (es.push { key := .int .i64 (made + 1), val := .pointer (some ⟨p, 0, none⟩), born := c }) (c + 1)) ∧ Kept (fun k => k = d ∨ k = L) w w' := by
  obtain ⟨c0, c1, c2, c3, c4, c5, c6, c7, c8, c9, c10, c11⟩ := hD.cells
  have ff := hD.free
  have hdL : d ≠ L := hp_ne hD hL (by simp)
  have hdl := hp_lt hD
  have hLl := hp_lt hL
  have hsk : Kept (fun k => k = d ∨ k = L) w (w.setCell ⟨d, 3, none⟩ (.int .i64 (made + 1))) := (Kept.refl _ w).setCell (p := ⟨d, 3, none⟩) (fun _ => .inl rfl) _
  have hs1 : Sl (w.setCell ⟨d, 3, none⟩ (.int .i64 (made + 1))) v bs := h.keptE (S := fun k => k = d) ((Kept.refl (fun k => k = d) w).setCell (p := ⟨d, 3, none⟩) (fun _ => rfl) _) (fun hne k hk e => hvd hne k hk e)
  have hD1 : DiskB (w.setCell ⟨d, 3, none⟩ (.int .i64 (made + 1))) d room limit (.map (some L)) (made + 1) N F vn off st k1 rd k2 := set_block hD _
  have hL1 : (w.setCell ⟨d, 3, none⟩ (.int .i64 (made + 1))).heap[L]? = some (.map es c) := hp_set hL (by simpa using hdL.symm) _
  have HS := hid hs1
  have HD1 := hid hD1
  have HL1 := hid hL1
  have HK := hid hsk
  have HF := hid hf
  clear hs1 hD1 hL1 hsk hD hL h c0 c1 c4 c5 c6 c7 c8 c9 c10 c11 hf hvd
  go_enter Tryz.func79, Tryz.ntmps79
  go_wp2
  go_region_with (
    go_at_call 121
    refine (newFile_any _ bs _ HS.out.drew hl).mono ?_
    rintro e w1 ⟨p, vs, vd, vf, rfl, hp, hfile, hb⟩
    have hbu := undrew hb
    have hD2 := (show DiskB w1 d room limit (.map (some L)) (made + 1) N F vn off st k1 rd k2 from hp_below HD1.out hbu (hp_lt HD1.out))
    have hL2 := (show w1.heap[L]? = some (.map es c) from hp_below HL1.out hbu (hp_lt HL1.out))
    obtain ⟨-, -, e2, e3, -⟩ := hD2.cells
    have hu := upd_new (w := w1) Tryz.underlying46 Tryz.underlying3 hL2 (key_int (made + 1)) (.pointer (some ⟨p, 0, none⟩)) HF.out
    have e4 := (puts_cell w1 (.map (es.push { key := .int .i64 (made + 1), val := .pointer (some ⟨p, 0, none⟩), born := c }) (c + 1)) ⟨d, 3, none⟩ hdL).trans e3
    have HX := hid (And.intro hp (And.intro hfile (And.intro hbu (And.intro hD2 hL2))))
    clear hp hfile hb hbu hD2 hL2)
  all_goals go_wp2
  all_goals
    go_ret
    obtain ⟨hp, hfile, hbu, hD2, hL2⟩ := HX.out
    have hsz : (w.setCell ⟨d, 3, none⟩ (.int .i64 (made + 1))).drew.heap.size = w.heap.size := by simp [World.setCell, World.drew]
    rw [hsz] at hp hfile hbu
    have hkp : Kept (fun k => k = L) w1 (puts w1 L (.map (es.push { key := .int .i64 (made + 1), val := .pointer (some ⟨p, 0, none⟩), born := c }) (c + 1))) := (Kept.refl (fun k => k = L) w1).puts (fun _ => rfl) _
    refine ⟨rfl, p, vs, vd, vf, hp, hfile.low hkp hp (fun k e => by omega), hp_kept hD2 hkp hdL, puts_same hL2, ?_⟩
    have hbw : Kept (fun _ => False) (w.setCell ⟨d, 3, none⟩ (.int .i64 (made + 1))) w1 := Kept.ofBelow (by simpa [World.setCell] using hbu)
    exact (HK.out.trans hbw (fun _ _ h => h.elim)).trans hkp (fun i _ e => .inr e)

set_option maxRecDepth 100000 in
set_option maxHeartbeats 1600000 in
theorem plan_any {w : World} {d : Nat} {room limit : Int} {L : Value} {made : Int} {N F vn : Value} {off : Bool} {st : Int} {k1 : Value} {rd : Int} {k2 : Value} (h : DiskB w d room limit L made N F vn off st k1 rd k2) (sv rv : Value) (gs gr : List (Int × Int)) (h1 : Fl w sv gs) (h2 : Fl w rv gr) (l1 : gs.length ≤ 300) (l2 : gr.length ≤ 300) (n2 : gr ≠ [] → rv.ownBlock ≠ some d) :
    Calls Tryz.prog 19 #[.pointer (some ⟨d, 0, none⟩), .agg #[sv, rv]] w fun x w' => x = .returned (.tuple #[]) ∧ ∃ m1 m2 es1 cc1 es2 cc2, DiskB w' d room limit L made N F vn off 0 (.map (some m1)) 0 (.map (some m2)) ∧ w'.heap[m1]? = some (.map es1 cc1) ∧ KM es1 gs ∧ w'.heap[m2]? = some (.map es2 cc2) ∧ KM es2 gr ∧ w.heap.size ≤ m1 ∧ w.heap.size ≤ m2 ∧ Kept (fun k => k = d) w w' := by
  obtain ⟨ao, cp, rfl, hc1, hc2⟩ := h1.shape
  obtain ⟨ar, cr, rfl, hc3, hc4⟩ := h2.shape
  have hd := h
  have hmp : ∀ b es c, w.heap[b]? = some (.map es c) → ¬ b = d := fun b es c hb e => by subst e; exact hp_ne hd hb (by simp) rfl
  obtain ⟨c0, c1, c2, c3, c4, c5, c6, c7, c8, c9, c10, c11⟩ := hd.cells
  have ff := hd.free
  have hdl := hp_lt hd
  have HD := hid (And.intro hd (And.intro hmp (And.intro h1 h2)))
  clear hd h c0 c1 c2 c3 c4 c5 c6 c7 hmp h1 h2
  have hb0 : Below w.heap.size w (w.alloc (.cells #[.slice ao gs.length cp, .slice ar gr.length cr] 38)) := (Below.refl _ _).alloc (Nat.le_refl _) _
  have HB0 := hid hb0
  clear hb0
  go_enter Tryz.func19, Tryz.ntmps19
  go_wp2_with (
    go_at_call 75
    (with_reducible show Calls _ _ #[.slice ao gs.length cp] _ _)
    refine (newTally_any _ gs _ (HD.out.2.2.1.below HB0.out) (by omega)).mono ?_
    rintro e w1 ⟨m1, es1, cc1, rfl, hm1, hkm1, hg1, hb1⟩
    have hd1 := (show DiskB w1 d room limit L made N F vn off st k1 rd k2 from hp_below (hp_alloc HD.out.1 _) hb1 (by simp; omega))
    obtain ⟨-, -, -, -, -, -, -, -, x8, x9, x10, x11⟩ := hd1.cells
    have xf := hd1.free
    have bx0 := hb1.cell (p := ⟨w.heap.size, 0, none⟩) (by simp)
    have bx1 := hb1.cell (p := ⟨w.heap.size, 1, none⟩) (by simp)
    have hzz : w.heap.size < w1.heap.size := (by have := hb1.size; simp at this; omega)
    have H1 := hid (And.intro hd1 (And.intro hm1 (And.intro hkm1 (And.intro hg1 hb1))))
    clear hd1 hm1 hg1 hb1 hkm1)
  have hd3 : DiskB ((w1.setCell ⟨d, 8, none⟩ (.int .i64 0)).setCell ⟨d, 9, none⟩ (.map (some m1))) d room limit L made N F vn off 0 (.map (some m1)) rd k2 := set_block (i := 9) (set_block (i := 8) H1.out.1 _) _
  obtain ⟨W, hW⟩ : ∃ W, W = (w1.setCell ⟨d, 8, none⟩ (.int .i64 0)).setCell ⟨d, 9, none⟩ (.map (some m1)) := ⟨_, rfl⟩
  rw [← hW] at hd3 ⊢
  have hkW : Kept (fun k => k = d) w1 W := by
    rw [hW]
    exact ((Kept.refl (fun k => k = d) w1).setCell (p := ⟨d, 8, none⟩) (fun _ => rfl) _).setCell (p := ⟨d, 9, none⟩) (fun _ => rfl) _
  have hrW : Fl W (.slice ar gr.length cr) gr := Rf.keptE ((HD.out.2.2.2.below HB0.out).below H1.out.2.2.2.2) hkW (fun h0 k hk e => n2 (fun e => by rw [e] at h0; simp at h0) (by rw [hk, e]))
  have HW := hid (And.intro hd3 (And.intro hkW hrW))
  clear hW hd3 hkW hrW
  go_wp2_with (
    go_at_call 75
    (with_reducible show Calls _ _ #[.slice ar gr.length cr] _ _)
    refine (newTally_any _ gr W HW.out.2.2 (by omega)).mono ?_
    rintro e w2 ⟨m2, es2, cc2, rfl, hm2, hkm2, hg2, hb2⟩
    have hd2 := (show DiskB w2 d room limit L made N F vn off 0 (.map (some m1)) rd k2 from hp_below HW.out.1 hb2 (hp_lt HW.out.1))
    obtain ⟨-, -, -, -, -, -, -, -, y8, y9, y10, y11⟩ := hd2.cells
    have yf := hd2.free
    have H2 := hid (And.intro hd2 (And.intro hm2 (And.intro hkm2 (And.intro hg2 hb2))))
    clear hd2 hm2 hg2 hb2 hkm2)
  go_end0
  obtain ⟨hd1, hm1, hkm1, hg1, hb1⟩ := H1.out
  obtain ⟨hd2, hm2, hkm2, hg2, hb2⟩ := H2.out
  obtain ⟨hd3, hkW, -⟩ := HW.out
  have hz1 := hb1.size
  have hz2 := hkW.size
  simp at hz1 hg1
  have K3 : Kept (fun k => k = d) w2 ((w2.setCell ⟨d, 10, none⟩ (.int .i64 0)).setCell ⟨d, 11, none⟩ (.map (some m2))) := ((Kept.refl (fun k => k = d) w2).setCell (p := ⟨d, 10, none⟩) (fun _ => rfl) _).setCell (p := ⟨d, 11, none⟩) (fun _ => rfl) _
  have k1' : Kept (fun _ => False) w w1 := ((Kept.refl (fun _ => False) w).alloc _).trans (Kept.ofBelow hb1) (fun _ _ e => e)
  have KA : Kept (fun k => k = d) w ((w2.setCell ⟨d, 10, none⟩ (.int .i64 0)).setCell ⟨d, 11, none⟩ (.map (some m2))) := (((k1'.mono (S' := fun k => k = d) (fun _ _ e => e.elim)).trans hkW (fun _ _ e => e)).trans (Kept.ofBelow hb2) (fun _ _ e => e.elim)).trans K3 (fun _ _ e => e)
  refine ⟨rfl, m1, m2, es1, cc1, es2, cc2, set_block (i := 11) (set_block (i := 10) hd2 _) _, ?_, hkm1, ?_, hkm2, by omega, by omega, KA⟩
  · exact hp_kept (hp_below (hp_kept hm1 hkW (by omega)) hb2 (by have := hp_lt hm1; omega)) K3 (by omega)
  · exact hp_kept hm2 K3 (by omega)

section
variable {w : World} {d : Nat} {t : Wt} {D : Dq} {n : Nat}

/-- A plan. -/
def planD (gs gr : List (Int × Int)) (D : Dq) : Dq := { D with st := 0, fs := gs, rd := 0, fr := gr }

theorem plan_dk (h : DkT w d t D) (sv rv : Value) (gs gr : List (Int × Int)) (h1 : Fl w sv gs) (h2 : Fl w rv gr) (l1 : gs.length ≤ 300) (l2 : gr.length ≤ 300) (n2 : gr ≠ [] → rv.ownBlock ≠ some d) :
    Calls Tryz.prog 19 #[.pointer (some ⟨d, 0, none⟩), .agg #[sv, rv]] w fun x w' => x = .returned (.tuple #[]) ∧ ∃ t', Goes d w t D w' t' (planD gs gr D) ∧ Kept (fun k => k = d) w w' := by
  refine (plan_any h.disk sv rv gs gr h1 h2 l1 l2 n2).mono ?_
  rintro x w' ⟨rfl, m1, m2, es1, cc1, es2, cc2, hD', hm1, hk1, hm2, hk2, hl1, hl2, hk⟩
  obtain ⟨a1, a2, a3, a4, a5, a6, a7⟩ := h.apart
  have bL := hp_lt h.hL.blk
  have bN := hp_lt h.hN.blk
  have bF := hp_lt h.hF.blk
  refine ⟨rfl, { t with k1 := .map (some m1), k2 := .map (some m2) }, ⟨⟨hD', h.hL.kept hk (fun e => a1 e.symm), h.hN.kept hk (fun e => a2 e.symm), h.hF.kept hk (fun e => a3 e.symm), h.pl, h.pn, h.pf, h.ln, h.lf, h.nf, fun f hf => (h.fil f hf).kept hk (fun k e e' => by subst e'; exact a7 f hf e), h.dis, ownsRow_kept h.nam hk (fun k e e' => by subst e'; exact a4 e), .inr ⟨m1, es1, cc1, rfl, hm1, hk1⟩, .inr ⟨m2, es2, cc2, rfl, hm2, hk2⟩, ?_⟩, hk.mono (fun _ _ e => .inl e), ?_⟩, hk⟩
  · intro b e
    have : b = m1 ∨ b = m2 := by
      rcases e with e | e
      · injection e with e; injection e with e; exact .inl e.symm
      · injection e with e; injection e with e; exact .inr e.symm
    dsimp only
    omega
  · rintro k (e | e | e | e | e | e | e | e)
    · exact .inl (.inl e)
    · exact .inl (.inr (.inl e))
    · exact .inl (.inr (.inr (.inl e)))
    · exact .inl (.inr (.inr (.inr (.inl e))))
    · exact .inl (.inr (.inr (.inr (.inr (.inl e)))))
    · injection e with e; injection e with e; exact .inr (by omega)
    · injection e with e; injection e with e; exact .inr (by omega)
    · exact .inl (.inr (.inr (.inr (.inr (.inr (.inr (.inr e)))))))

/-- The peak of a number among files. -/
def pkL (fs : List Fi) (m : Int) : Int := ((ff m fs).map fun f => (f.peak : Int)).getD 0

/-- held over any map of files. -/
theorem held_gen {L c : Nat} {kl : List (Int × Value)} {es : Array MapEntry} (hM : MG KI w L kl es c) (pt : Int → Nat) (ft : Int → Nat → Prop) (fs : List Fi) (pl : kl.Perm (encL pt fs)) (nd : (fs.map Fi.no).Nodup) (hfil : ∀ f ∈ fs, Fil w (ft f.no) (pt f.no) f) (hs : (fs.map Fi.peak).sum ≤ 100000000) (hl : fs.length ≤ 1000000) :
    Calls Tryz.prog 74 #[.map (some L)] w fun x w' => x = .returned (.tuple #[.int .i64 ((fs.map Fi.peak).sum : Nat), .int .i64 fs.length]) ∧ Below w.heap.size w w' := by
  have hsz : es.size = fs.length := by rw [hM.size, pl.length_eq]; simp [encL]
  have hsum : sumE (fun e => pkL fs (iv e.key)) es.toList = ((fs.map Fi.peak).sum : Nat) := by
    unfold sumE
    have e1 : es.toList.map (fun e => pkL fs (iv e.key)) = (es.toList.map (fun e => (e.key, e.val))).map (fun x => pkL fs (iv x.1)) := by rw [List.map_map]; rfl
    rw [e1, hM.kvs, List.map_map, sum_cast, List.map_map]
    have e2 : (kl.map ((fun x : Value × Value => pkL fs (iv x.1)) ∘ fun x : Int × Value => (KI.enc x.1, x.2))).Perm ((encL pt fs).map (fun x => pkL fs x.1)) := pl.map (fun x : Int × Value => pkL fs x.1)
    rw [sumI_perm e2]
    unfold encL
    rw [List.map_map]
    congr 1
    refine List.map_congr_left fun f hf => ?_
    simp only [Function.comp, pkL, ff_self nd hf, Option.map_some, Option.getD_some]
  have hpk : Peaks w es (fun e => pkL fs (iv e.key)) := by
    intro e he
    have h1 : (e.key, e.val) ∈ kl.map (fun x => (KI.enc x.1, x.2)) := by
      rw [← hM.kvs]
      exact List.mem_map.2 ⟨e, he, rfl⟩
    obtain ⟨x, hx, hxe⟩ := List.mem_map.1 h1
    injection hxe with hx1 hx2
    have h2 : x ∈ encL pt fs := pl.mem_iff.1 hx
    obtain ⟨f, hf, rfl⟩ := List.mem_map.1 h2
    have hk : iv e.key = f.no := by rw [← hx1]; rfl
    have hpk : pkL fs (iv e.key) = f.peak := by simp only [pkL, hk, ff_self nd hf, Option.map_some, Option.getD_some]
    refine ⟨pt f.no, hx2.symm, ?_, by dsimp only; rw [hpk]; omega⟩
    dsimp only
    rw [hpk]
    exact (hfil f hf).cells.2.2.2
  have := held_any L c es (fun e => pkL fs (iv e.key)) w hM.blk hM.hold hM.nd hpk (by rw [hsum]; omega) (by rw [hsz]; omega)
  rw [hsum, hsz] at this
  exact this

/-- A file more, without a name. -/
def addD (bs : List Int) (D : Dq) : Dq := { D with made := D.made + 1, files := D.files ++ [⟨D.made + 1, bs, []⟩] }

theorem add_dk (h : DkT w d t D) (hW : WD n D) (hn : n ≤ 1000000) (v : Value) (bs : List Int) (hs : Sl w v bs) (hl : bs.length ≤ 10000000) (hvd : bs ≠ [] → ∀ k, v.ownBlock = some k → k ≠ d) :
    Calls Tryz.prog 79 #[.pointer (some ⟨d, 0, none⟩), v] w fun x w' => x = .returned (.int .i64 (D.made + 1)) ∧ ∃ t', DkT w' d t' (addD bs D) ∧ Kept (fun k => k = d ∨ k = t.L) w w' ∧ (∀ k, Dft d t' (addD bs D) k → Dft d t D k ∨ w.heap.size ≤ k) ∧ t'.k1 = t.k1 ∧ t'.k2 = t.k2 := by
  have hm := hW.made
  have hno : ∀ g ∈ D.files, g.no ≠ D.made + 1 := fun g hg e => by have := (hW.rng g hg).2; omega
  have hffn : ff (D.made + 1) D.files = none := by
    cases e : ff (D.made + 1) D.files with
    | none => rfl
    | some g => exact absurd (ff_mem e).2 (hno g (ff_mem e).1)
  have k1 : lo (D.made + 1) t.kl = none := by rw [h.lkeys, hffn]; rfl
  refine (add_anyE d v bs w D.room D.limit t.L D.made (.map (some t.N)) (.map (some t.F)) t.vn D.off D.st t.k1 D.rd t.k2 t.eL t.cL h.disk h.hL.blk ((h.hL.findn (D.made + 1)).1 k1) (by omega) (by omega) hs (by omega) hvd).mono ?_
  rintro x w' ⟨rfl, p, vs, vd, vf, hp, hfile, hD', hL', hk⟩
  obtain ⟨ft', hF, hB⟩ := fil_new hfile hp (D.made + 1)
  obtain ⟨a1, a2, a3, a4, a5, a6, a7⟩ := h.apart
  have vnL : t.vn.ownBlock ≠ some t.L := fun e => by
    obtain ⟨cs, a⟩ := owns_block h.nam _ e
    exact hp_ne h.hL.blk a (by simp) rfl
  have oldf : ∀ g ∈ D.files, (if g.no = D.made + 1 then ft' else t.ft g.no) = t.ft g.no := fun g hg => if_neg (hno g hg)
  have oldp : ∀ g ∈ D.files, (if g.no = D.made + 1 then p else t.pt g.no) = t.pt g.no := fun g hg => if_neg (hno g hg)
  have hlt : ∀ g ∈ D.files, ∀ k, t.ft g.no k → k < w.heap.size := fun g hg k e => (h.fil g hg).lt k e
  refine ⟨rfl, { t with kl := t.kl ++ [(D.made + 1, .pointer (some ⟨p, 0, none⟩))], eL := _, cL := t.cL + 1, ft := fun m => if m = D.made + 1 then ft' else t.ft m, pt := fun m => if m = D.made + 1 then p else t.pt m }, ⟨hD', h.hL.push (D.made + 1) _ (by rw [lo_lookup]; exact k1) hL', h.hN.kept hk ?_, h.hF.kept hk ?_, ?_, h.pn, h.pf, h.ln, h.lf, h.nf, ?_, ?_, ownsRow_kept h.nam hk ?_, h.kf1.keptOf hk ?_, h.kf2.keptOf hk ?_, h.kd⟩, hk, ?_, rfl, rfl⟩
  · rintro (e | e)
    · exact a2 e.symm
    · exact h.ln e.symm
  · rintro (e | e)
    · exact a3 e.symm
    · exact h.lf e.symm
  · show (t.kl ++ [(D.made + 1, _)]).Perm (encL (fun m => if m = D.made + 1 then p else t.pt m) (D.files ++ [(⟨D.made + 1, bs, []⟩ : Fi)]))
    have e1 : encL (fun m => if m = D.made + 1 then p else t.pt m) (D.files ++ [(⟨D.made + 1, bs, []⟩ : Fi)]) = encL t.pt D.files ++ [(D.made + 1, .pointer (some ⟨p, 0, none⟩))] := by
      unfold encL
      rw [List.map_append]
      congr 1
      · exact List.map_congr_left fun g hg => by dsimp only; rw [oldp g hg]
      · simp
    rw [e1]
    exact h.pl.append_right _
  · intro g hg
    show Fil w' (if g.no = D.made + 1 then ft' else t.ft g.no) (if g.no = D.made + 1 then p else t.pt g.no) g
    rcases List.mem_append.1 hg with hg | hg
    · rw [oldf g hg, oldp g hg]
      refine (h.fil g hg).kept hk ?_
      intro k e
      obtain ⟨b1, b2, b3, b4, b5, b6, b7⟩ := h.fapart hg e
      rintro (e | e)
      · exact b1 e
      · exact b2 e
    · rw [List.mem_singleton] at hg
      subst hg
      rw [if_pos rfl, if_pos rfl]
      exact hF
  · intro g hg g' hg' hne k
    show (if g.no = D.made + 1 then ft' else t.ft g.no) k → ¬ (if g'.no = D.made + 1 then ft' else t.ft g'.no) k
    rcases List.mem_append.1 hg with hg | hg <;> rcases List.mem_append.1 hg' with hg' | hg'
    · rw [oldf g hg, oldf g' hg']
      exact h.dis g hg g' hg' hne k
    · rw [List.mem_singleton] at hg'
      subst hg'
      rw [oldf g hg, if_pos rfl]
      intro e e'
      have := hlt g hg k e
      have := hB k e'
      omega
    · rw [List.mem_singleton] at hg
      subst hg
      rw [oldf g' hg', if_pos rfl]
      intro e e'
      have := hlt g' hg' k e'
      have := hB k e
      omega
    · rw [List.mem_singleton] at hg hg'
      subst hg hg'
      exact absurd rfl hne
  · rintro k e (e' | e')
    · subst e'; exact a4 e
    · subst e'; exact vnL e
  · rintro b e (e' | e')
    · subst e'; exact a5 e
    · exact (h.kd b (.inl e)).1 e'
  · rintro b e (e' | e')
    · subst e'; exact a6 e
    · exact (h.kd b (.inr e)).1 e'
  · rintro k (e | e | e | e | e | e | e | ⟨g, hg, e⟩)
    · exact .inl (.inl e)
    · exact .inl (.inr (.inl e))
    · exact .inl (.inr (.inr (.inl e)))
    · exact .inl (.inr (.inr (.inr (.inl e))))
    · exact .inl (.inr (.inr (.inr (.inr (.inl e)))))
    · exact .inl (.inr (.inr (.inr (.inr (.inr (.inl e))))))
    · exact .inl (.inr (.inr (.inr (.inr (.inr (.inr (.inl e)))))))
    · replace e : (if g.no = D.made + 1 then ft' else t.ft g.no) k := e
      rcases List.mem_append.1 hg with hg | hg
      · rw [oldf g hg] at e
        exact .inl (.inr (.inr (.inr (.inr (.inr (.inr (.inr ⟨g, hg, e⟩)))))))
      · rw [List.mem_singleton] at hg
        subst hg
        rw [if_pos rfl] at e
        exact .inr (hB k e)

end
end Go.Proofs.YtlmompdfombgeaaGreat

namespace Go.Proofs.YtlmompdfombgeaaGreat
open Go.RowKit Go.MapKept

theorem sum_sub {l l' : List Nat} (h : l.Sublist l') : l.sum ≤ l'.sum := by
  induction h with
  | slnil => exact Nat.le_refl _
  | cons a _ ih => rw [List.sum_cons]; omega
  | cons_cons a _ ih => rw [List.sum_cons, List.sum_cons]; omega

theorem empty_isEmpty : (⟨#[]⟩ : ByteArray).toList.isEmpty = true := by kernel_rfl

theorem snd_inj {α β : Type} : ∀ {l : List (α × β)} {x y : α × β}, (l.map Prod.snd).Nodup → x ∈ l → y ∈ l → x.2 = y.2 → x = y
  | [], _, _, _, h, _, _ => by cases h
  | z :: l, x, y, nd, hx, hy, e => by
    rw [List.map_cons, List.nodup_cons] at nd
    have a := List.mem_cons.1 hx
    have b := List.mem_cons.1 hy
    clear hx hy
    rcases a with a | a <;> rcases b with b | b
    · rw [a, b]
    · rw [a] at e; exact absurd (List.mem_map.2 ⟨y, b, e.symm⟩) nd.1
    · rw [b] at e; exact absurd (List.mem_map.2 ⟨x, a, e⟩) nd.1
    · exact snd_inj nd.2 a b e

theorem NOK.of_no {fs fs' : List Fi} {l : List (ByteArray × Int)} (h : NOK fs l) (e : ∀ m, m ∈ fs.map Fi.no → m ∈ fs'.map Fi.no) : NOK fs' l :=
  ⟨h.k, h.n, fun x hx => e _ (h.l x hx), h.ok⟩

theorem NOK.del {fs : List Fi} {l : List (ByteArray × Int)} (h : NOK fs l) (k : ByteArray) : NOK fs (delA k l) :=
  ⟨h.k.sublist (List.Sublist.map _ List.filter_sublist), h.n.sublist (List.Sublist.map _ List.filter_sublist), fun x hx => h.l x (List.mem_filter.1 hx).1, fun x hx => h.ok x (List.mem_filter.1 hx).1⟩

theorem mem_delA {k : ByteArray} {l : List (ByteArray × Int)} {x : ByteArray × Int} : x ∈ delA k l ↔ x ∈ l ∧ x.1 ≠ k := by simp [delA]

theorem NOK.set {fs : List Fi} {l : List (ByteArray × Int)} (h : NOK fs l) (k : ByteArray) (v : Int) (hk : nmOK k = true) (hv : v ∈ fs.map Fi.no) (hn : v ∉ l.map Prod.snd) : NOK fs (setA k v l) := by
  have hd := h.del k
  refine ⟨?_, ?_, ?_, ?_⟩
  · unfold setA
    rw [List.map_append, List.nodup_append]
    refine ⟨hd.k, by simp, ?_⟩
    intro a ha b hb
    obtain ⟨x, hx, rfl⟩ := List.mem_map.1 ha
    simp at hb
    subst hb
    exact (mem_delA.1 hx).2
  · unfold setA
    rw [List.map_append, List.nodup_append]
    refine ⟨hd.n, by simp, ?_⟩
    intro a ha b hb
    obtain ⟨x, hx, rfl⟩ := List.mem_map.1 ha
    simp at hb
    subst hb
    intro e
    exact hn (List.mem_map.2 ⟨x, (mem_delA.1 hx).1, e⟩)
  · intro x hx
    rcases List.mem_append.1 hx with hx | hx
    · exact hd.l x hx
    · simp at hx; subst hx; exact hv
  · intro x hx
    rcases List.mem_append.1 hx with hx | hx
    · exact hd.ok x hx
    · simp at hx; subst hx; exact hk

/-- Names with one change more. -/
theorem namesAt_snoc (D : Dq) (x : Nmg) (k : Nat) : ({ D with turns := D.turns ++ [x] } : Dq).namesAt k = if k ≤ D.turns.length then D.namesAt k else doT D.names x := by
  unfold Dq.namesAt Dq.names
  dsimp only
  split
  · rename_i h
    rw [List.take_append_of_le_length h]
  · rename_i h
    rw [List.take_of_length_le (by simp; omega), List.foldl_append]
    rfl

theorem sum_setF {f f' : Fi} (hno : f'.no = f.no) : ∀ {l : List Fi}, (l.map Fi.no).Nodup → f ∈ l → ((setF f' l).map Fi.peak).sum + f.peak = (l.map Fi.peak).sum + f'.peak
  | [], _, h => by cases h
  | g :: l, nd, h => by
    rw [List.map_cons, List.nodup_cons] at nd
    show (((if g.no = f'.no then f' else g) :: setF f' l).map Fi.peak).sum + f.peak = _
    rw [List.map_cons, List.sum_cons, List.map_cons, List.sum_cons]
    rcases List.mem_cons.1 h with rfl | h
    · rw [if_pos hno.symm]
      have : setF f' l = l := by
        unfold setF
        conv => rhs; rw [← List.map_id l]
        refine List.map_congr_left fun x hx => ?_
        rw [if_neg (fun e => nd.1 (by rw [← hno, ← e]; exact List.mem_map.2 ⟨x, hx, rfl⟩))]
        rfl
      rw [this]
      omega
    · have hg : g.no ≠ f'.no := fun e => nd.1 (by rw [e, hno]; exact List.mem_map.2 ⟨f, h, rfl⟩)
      rw [if_neg hg]
      have := sum_setF hno nd.2 h
      omega

section
variable {D : Dq} {n : Nat}

/-- One file is another. -/
theorem WD.setF (h : WD n D) {f f' : Fi} (hf : f ∈ D.files) (hno : f'.no = f.no) (hc : f'.cs.length ≤ n + 1) (hcut : CutsOK f'.safe f'.cs) (hp : (heldD D : Int) - f.peak + f'.peak ≤ D.room) : WD (n + 1) { D with files := Go.Proofs.YtlmompdfombgeaaGreat.setF f' D.files } := by
  have e := setF_no f' D.files
  refine ⟨h.room, h.lim, ⟨h.made.1, by have := h.made.2; show D.made ≤ _; omega⟩, ?_, ?_, ?_, ?_, ?_, by have := h.tur; show D.turns.length ≤ _; omega, ?_, ⟨h.st.1, by have := h.st.2; show D.st ≤ _; omega⟩, ⟨h.rd.1, by have := h.rd.2; show D.rd ≤ _; omega⟩⟩
  · show ((Go.Proofs.YtlmompdfombgeaaGreat.setF f' D.files).map Fi.no).Pairwise (· < ·)
    rw [e]; exact h.asc
  · intro g hg
    rcases mem_setF hg with ⟨rfl, _⟩ | ⟨hg, _⟩
    · rw [hno]; exact h.rng f hf
    · exact h.rng g hg
  · show ((Go.Proofs.YtlmompdfombgeaaGreat.setF f' D.files).length : Int) ≤ D.limit
    have : (Go.Proofs.YtlmompdfombgeaaGreat.setF f' D.files).length = D.files.length := by simp [Go.Proofs.YtlmompdfombgeaaGreat.setF]
    rw [this]; exact h.cnt
  · show ((((Go.Proofs.YtlmompdfombgeaaGreat.setF f' D.files).map Fi.peak).sum : Nat) : Int) ≤ D.room
    have := sum_setF hno h.nd hf
    unfold heldD at hp
    omega
  · intro k
    have := h.saf k
    exact NOK.of_no this (fun m hm => by show m ∈ (Go.Proofs.YtlmompdfombgeaaGreat.setF f' D.files).map Fi.no; rw [e]; exact hm)
  · intro g hg
    rcases mem_setF hg with ⟨rfl, _⟩ | ⟨hg, _⟩
    · exact ⟨hc, hcut⟩
    · have := h.chg g hg
      exact ⟨by omega, this.2⟩

theorem WD.turn (h : WD n D) (x : Nmg) (hx : NOK D.files (doT D.names x)) : WD (n + 1) { D with turns := D.turns ++ [x] } := by
  refine ⟨h.room, h.lim, ⟨h.made.1, by have := h.made.2; show D.made ≤ _; omega⟩, h.asc, h.rng, h.cnt, h.hld, ?_, ?_, fun f hf => ⟨by have := (h.chg f hf).1; omega, (h.chg f hf).2⟩, ⟨h.st.1, by have := h.st.2; show D.st ≤ _; omega⟩, ⟨h.rd.1, by have := h.rd.2; show D.rd ≤ _; omega⟩⟩
  · intro k
    rw [namesAt_snoc]
    split
    · exact h.saf k
    · exact hx
  · have := h.tur
    simp
    omega

theorem WD.settle (h : WD n D) {l : List (ByteArray × Int)} (hl : NOK D.files l) : WD n (settleD l D) := by
  have hs : (liveF l D.files).Sublist D.files := List.filter_sublist
  refine ⟨h.room, h.lim, h.made, h.asc.sublist (hs.map _), fun f hf => h.rng f (mem_liveF.1 hf).1, ?_, ?_, ?_, Nat.zero_le _, fun f hf => h.chg f (mem_liveF.1 hf).1, h.st, h.rd⟩
  · have := h.cnt
    have h2 := hs.length_le
    show ((liveF l D.files).length : Int) ≤ D.limit
    omega
  · have := h.hld
    have h2 : ((liveF l D.files).map Fi.peak).sum ≤ (D.files.map Fi.peak).sum := sum_sub (hs.map _)
    show ((((liveF l D.files).map Fi.peak).sum : Nat) : Int) ≤ D.room
    omega
  · intro k
    have e : (settleD l D).namesAt k = l := by simp [Dq.namesAt, settleD]
    rw [e]
    refine ⟨hl.k, hl.n, fun x hx => ?_, hl.ok⟩
    obtain ⟨f, hf, e⟩ := List.mem_map.1 (hl.l x hx)
    exact List.mem_map.2 ⟨f, mem_liveF.2 ⟨hf, by rw [e]; exact List.mem_map.2 ⟨x, hx, rfl⟩⟩, e⟩

theorem WD.cntR (h : WD n D) : WD (n + 1) (cntR D) :=
  ⟨h.room, h.lim, ⟨h.made.1, by have := h.made.2; show D.made ≤ _; omega⟩, h.asc, h.rng, h.cnt, h.hld, h.saf, by have := h.tur; show D.turns.length ≤ _; omega, fun f hf => ⟨by have := (h.chg f hf).1; omega, (h.chg f hf).2⟩, ⟨h.st.1, by have := h.st.2; show D.st ≤ _; omega⟩, ⟨by have := h.rd.1; show 0 ≤ D.rd + 1; omega, by have := h.rd.2; show D.rd + 1 ≤ _; omega⟩⟩

/-- A stroke keeps what its last part keeps. -/
theorem WD.stroke (h : WD n D) (e : Int) (k : Dq → Int × Dq) (hk : e = 0 → WD (n + 1) (Go.Proofs.YtlmompdfombgeaaGreat.cntS D) → WD (n + 2) (k (Go.Proofs.YtlmompdfombgeaaGreat.cntS D)).2) : WD (n + 2) (strokeP D e k).2 := by
  unfold strokeP
  split
  · exact h.mono (by omega)
  · rename_i he
    split
    · exact h.cntS.mono (by omega)
    · exact hk (by simpa using he) h.cntS

theorem cutsOK_snoc {safe : List Int} {cs : List Chg} (h : CutsOK safe cs) (c : Chg) (hc : ∀ m, c = .inr m → m ≤ (rowC safe cs).1.length) : CutsOK safe (cs ++ [c]) := by
  intro k m hk
  by_cases hlt : k < cs.length
  · rw [List.getElem?_append_left hlt] at hk
    rw [List.take_append_of_le_length (by omega)]
    exact h k m hk
  · by_cases he : k = cs.length
    · subst he
      rw [List.getElem?_append_right (Nat.le_refl _)] at hk
      simp at hk
      rw [List.take_append_of_le_length (Nat.le_refl _), List.take_of_length_le (Nat.le_refl _)]
      exact hc m hk
    · rw [List.getElem?_eq_none (by simp; omega)] at hk
      cases hk

theorem WD.cut (h : WD n D) (nm : ByteArray) (sz : Int) (h0 : 0 ≤ sz) : WD (n + 1) (cutK nm sz D).2 := by
  unfold cutK
  dsimp only
  split
  · rename_i f hl
    split
    · rename_i hlt
      have hf := (look_mem hl).1
      have hc := h.chg f hf
      have hpk : (Fi.peak { f with cs := f.cs ++ [.inr sz.toNat] }) = f.peak := by
        unfold Fi.peak
        rw [peakC_snoc, rowC_snoc]
        have := row_le_peak f.safe f.cs
        show max (peakC f.safe f.cs) ((rowC f.safe f.cs).1.take sz.toNat).length = peakC f.safe f.cs
        rw [List.length_take]
        omega
      refine h.setF hf rfl (by simp; omega) (cutsOK_snoc hc.2 _ (fun m e => ?_)) ?_
      · injection e with e
        subst e
        have : f.row.1 = (rowC f.safe f.cs).1 := rfl
        rw [this] at hlt
        omega
      · rw [hpk]
        have := h.hld
        unfold heldD
        omega
    · exact h.mono (by omega)
  · exact h.mono (by omega)

theorem WD.sync (h : WD n D) (nm : ByteArray) : WD (n + 1) (syncK nm D).2 := by
  unfold syncK
  dsimp only
  split
  · rename_i f hl
    have hf := (look_mem hl).1
    refine h.setF hf rfl (by simp) (fun k m e => by simp at e) ?_
    have h1 := h.hld
    have h2 := row_le_peak f.safe f.cs
    have h3 : Fi.peak { f with safe := f.row.1, cs := [] } = f.row.1.length := peakC_nil _
    rw [h3]
    have h4 : f.row.1.length ≤ f.peak := h2
    unfold heldD
    omega
  · exact h.mono (by omega)

theorem WD.app (h : WD n D) (nm : ByteArray) (ys : List Int) : WD (n + 1) (appK nm ys D).2 := by
  unfold appK
  split
  · rename_i f hl
    have hf := (look_mem hl).1
    have hc := h.chg f hf
    split
    · exact h.mono (by omega)
    · rename_i hr
      split
      · exact h.mono (by omega)
      · refine h.setF hf rfl (by simp; omega) (cutsOK_snoc hc.2 _ (fun m e => by cases e)) ?_
        have hpk : ((Fi.peak { f with cs := f.cs ++ [.inl ys] } : Nat) : Int) = max (f.peak : Int) ((f.row.1.length : Int) + ys.length) := by
          unfold Fi.peak
          rw [peakC_snoc, rowC_snoc]
          show ((max (peakC f.safe f.cs) (f.row.1 ++ ys).length : Nat) : Int) = _
          rw [List.length_append]
          omega
        rw [hpk]
        omega
  · exact h.mono (by omega)

theorem WD.remove (h : WD n D) (nm : ByteArray) : WD (n + 1) (remK nm D).2 := by
  refine h.turn _ ?_
  show NOK D.files (if (⟨#[]⟩ : ByteArray).toList.isEmpty then delA nm D.names else _)
  rw [if_pos empty_isEmpty]
  exact h.nam.del nm

theorem WD.rename (h : WD n D) (nm mn : ByteArray) (hok : nmOK mn = true) {f : Fi} (hl : D.look nm = some f) : WD (n + 1) (renK nm mn D).2 := by
  unfold renK
  dsimp only
  split
  · exact h.mono (by omega)
  · refine h.turn _ ?_
    have hf := look_mem hl
    rw [hf.2]
    show NOK D.files (if mn.toList.isEmpty then delA nm D.names else setA mn f.no (delA nm D.names))
    rw [if_neg (by rw [nm_ne hok]; simp)]
    refine (h.nam.del nm).set mn f.no hok (List.mem_map.2 ⟨f, hf.1, rfl⟩) ?_
    intro hm
    obtain ⟨x, hx, e⟩ := List.mem_map.1 hm
    have h1 := mem_delA.1 hx
    have h2 := lo_mem hf.2
    have := snd_inj h.nam.n h1.1 h2 e
    rw [this] at h1
    exact h1.2 rfl

theorem WD.syncN (h : WD n D) : WD (n + 1) (syncNK D).2 := (h.settle h.nam).mono (by omega)

theorem WD.create (h : WD n D) (nm : ByteArray) (hok : nmOK nm = true) (_hl : D.look nm = none) : WD (n + 1) (createK nm D).2 := by
  unfold createK
  split
  · exact h.mono (by omega)
  · rename_i hlim
    have hm := h.made
    have hno : ∀ g ∈ D.files, g.no ≠ D.made + 1 := fun g hg e => by have := (h.rng g hg).2; omega
    have hmem : ∀ m, m ∈ D.files.map Fi.no → m ∈ (D.files ++ [(⟨D.made + 1, [], []⟩ : Fi)]).map Fi.no := fun m hm => by rw [List.map_append]; exact List.mem_append.2 (.inl hm)
    refine ⟨h.room, h.lim, ⟨by show 0 ≤ D.made + 1; omega, by show D.made + 1 ≤ _; omega⟩, ?_, ?_, ?_, ?_, ?_, ?_, ?_, ⟨h.st.1, by have := h.st.2; show D.st ≤ _; omega⟩, ⟨h.rd.1, by have := h.rd.2; show D.rd ≤ _; omega⟩⟩
    · show ((D.files ++ [(⟨D.made + 1, [], []⟩ : Fi)]).map Fi.no).Pairwise (· < ·)
      rw [List.map_append, List.pairwise_append]
      refine ⟨h.asc, by simp, ?_⟩
      intro a ha b hb
      obtain ⟨g, hg, rfl⟩ := List.mem_map.1 ha
      simp at hb
      have := (h.rng g hg).2
      omega
    · intro g hg
      rcases List.mem_append.1 hg with hg | hg
      · have := h.rng g hg
        exact ⟨this.1, by show g.no ≤ D.made + 1; omega⟩
      · simp at hg; subst hg; exact ⟨by show 1 ≤ D.made + 1; omega, Int.le_refl _⟩
    · show ((D.files ++ [(⟨D.made + 1, [], []⟩ : Fi)]).length : Int) ≤ D.limit
      simp
      omega
    · show ((((D.files ++ [(⟨D.made + 1, [], []⟩ : Fi)]).map Fi.peak).sum : Nat) : Int) ≤ D.room
      have := h.hld
      have e : Fi.peak ⟨D.made + 1, [], []⟩ = 0 := rfl
      simp [e]
      omega
    · intro k
      have e1 := namesAt_snoc D (⟨#[]⟩, nm, D.made + 1) k
      have e2 : ({ D with made := D.made + 1, files := D.files ++ [⟨D.made + 1, [], []⟩], turns := D.turns ++ [(⟨#[]⟩, nm, D.made + 1)] } : Dq).namesAt k = ({ D with turns := D.turns ++ [(⟨#[]⟩, nm, D.made + 1)] } : Dq).namesAt k := rfl
      rw [e2, e1]
      split
      · exact (h.saf k).of_no hmem
      · show NOK _ (if nm.toList.isEmpty then delA ⟨#[]⟩ D.names else setA nm (D.made + 1) (delA ⟨#[]⟩ D.names))
        rw [if_neg (by rw [nm_ne hok]; simp)]
        refine ((h.nam.of_no hmem).del _).set nm _ hok (by rw [List.map_append]; exact List.mem_append.2 (.inr (by simp))) ?_
        intro hm
        obtain ⟨x, hx, e⟩ := List.mem_map.1 hm
        obtain ⟨g, hg, e'⟩ := List.mem_map.1 (h.nam.l x (mem_delA.1 hx).1)
        exact hno g hg (by rw [e', e])
    · have := h.tur
      simp
      omega
    · intro g hg
      rcases List.mem_append.1 hg with hg | hg
      · have := h.chg g hg
        exact ⟨by omega, this.2⟩
      · simp at hg; subst hg; exact ⟨by simp, fun k m e => by simp at e⟩

theorem WD.plan (h : WD n D) (gs gr : List (Int × Int)) : WD n (planD gs gr D) :=
  ⟨h.room, h.lim, h.made, h.asc, h.rng, h.cnt, h.hld, h.saf, h.tur, h.chg, ⟨Int.le_refl _, by show (0 : Int) ≤ _; omega⟩, ⟨Int.le_refl _, by show (0 : Int) ≤ _; omega⟩⟩

/-- Every stroke keeps a disk that fits together. -/
theorem WD.createP (h : WD n D) (nm : ByteArray) : WD (n + 2) (Go.Proofs.YtlmompdfombgeaaGreat.createP D nm).2 := h.stroke _ _ fun e hc => by
  obtain ⟨hok, hl, _⟩ := pre1_look e
  exact hc.create nm hok (hl rfl)
theorem WD.appP (h : WD n D) (nm : ByteArray) (ys : List Int) : WD (n + 2) (Go.Proofs.YtlmompdfombgeaaGreat.appP D nm ys).2 := h.stroke _ _ fun _ hc => hc.app nm ys
theorem WD.cutP (h : WD n D) (nm : ByteArray) (sz : Int) : WD (n + 2) (Go.Proofs.YtlmompdfombgeaaGreat.cutP D nm sz).2 := h.stroke _ _ fun e hc => by
  obtain ⟨_, _, hl⟩ := pre1_look e
  obtain ⟨f, _, h0, _⟩ := hl rfl
  exact hc.cut nm sz h0
theorem WD.syncP (h : WD n D) (nm : ByteArray) : WD (n + 2) (Go.Proofs.YtlmompdfombgeaaGreat.syncP D nm).2 := h.stroke _ _ fun _ hc => hc.sync nm
theorem WD.syncNP (h : WD n D) : WD (n + 2) (Go.Proofs.YtlmompdfombgeaaGreat.syncNP D).2 := h.stroke _ _ fun _ hc => hc.syncN
theorem WD.remP (h : WD n D) (nm : ByteArray) : WD (n + 2) (Go.Proofs.YtlmompdfombgeaaGreat.remP D nm).2 := h.stroke _ _ fun _ hc => hc.remove nm
theorem WD.renP (h : WD n D) (nm mn : ByteArray) : WD (n + 2) (Go.Proofs.YtlmompdfombgeaaGreat.renP D nm mn).2 := h.stroke _ _ fun e hc => by
  obtain ⟨_, hok, f, hl⟩ := pre2_look e
  exact hc.rename nm mn hok (f := f) hl
theorem WD.readP (h : WD n D) (nm : ByteArray) : WD (n + 1) (Go.Proofs.YtlmompdfombgeaaGreat.readP D nm).2.2 := by
  unfold Go.Proofs.YtlmompdfombgeaaGreat.readP
  split
  · exact h.mono (by omega)
  · split
    · exact h.cntR
    · exact h.cntR

end
end Go.Proofs.YtlmompdfombgeaaGreat
