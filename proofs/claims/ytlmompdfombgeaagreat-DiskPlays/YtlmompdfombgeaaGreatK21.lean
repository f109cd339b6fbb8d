import Derived.Test.YtlmompdfombgeaaGreatK20
import Derived.Test.YtlmompdfombgeaaGreatK08
import Derived.Test.YtlmompdfombgeaaGreatK09
namespace Go.Proofs.YtlmompdfombgeaaGreat
open Go.RowKit Go.MapKept

/-- The blocks of picks. -/
def pkBlk (fv : Value) (pk : List Pk) (k : Nat) : Prop := (0 < pk.length ∧ fv.ownBlock = some k) ∨ ∃ p ∈ pk, 0 < p.lost.length ∧ p.lv.ownBlock = some k

section
variable {w : World} {d : Nat} {t : Wt} {D : Dq} {n : Nat}

set_option maxRecDepth 100000 in
set_option maxHeartbeats 12800000 in
theorem crash_dk (h : DkT w d t D) (hW : WD n D) (hn : n ≤ 100000) (pn : Int) (hpn : I64 pn) (fv : Value) (pk : List Pk) (hpk : Pks w fv pk) (hl : pk.length ≤ 1000) (hll : ∀ p ∈ pk, p.lost.length ≤ 1000) (hsep : ∀ k, pkBlk fv pk k → ¬ Dft d t D k) :
    Calls Tryz.prog 28 #[.pointer (some ⟨d, 0, none⟩), .agg #[.int .i64 pn, fv]] w fun x w' => ∃ v t', x = .returned v ∧ FbAt w' w.heap.size v (crashP pn (pksOf pk) D).1 ∧ Goes d w t D w' t' (crashP pn (pksOf pk) D).2 := by
  obtain ⟨c0, c1, c2, c3, c4, c5, c6, c7, c8, c9, c10, c11⟩ := h.disk.cells
  have hdl := hp_lt h.disk
  have hmm := @run_makeMap Tryz.prog
  have hmf : ∀ (fn : Fn) (first cap : Array Value) (w : World), (Instr.makeFunc fn first cap).run Tryz.prog w = .ok (.func fn first cap) w := fun _ _ _ _ => rfl
  obtain ⟨ap, cp, hfv, hc1, hc2⟩ := hpk.1.shape
  subst hfv
  obtain ⟨m, hm⟩ : ∃ m, m = D.files.length := ⟨_, rfl⟩
  have h3 := hW.cnt
  have h4 := hW.lim
  have hm1 : m ≤ 512 := by omega
  have hb0 : Below w.heap.size w (((w.alloc (.cells #[.int .i64 pn, .slice ap pk.length cp] 41)).alloc (.map #[] 0)).alloc (.cells #[.map (some (w.heap.size + 1))] 131)) := (((Below.refl _ _).alloc (Nat.le_refl _) _).alloc (by simp) _).alloc (by simp; omega) _
  have hsz0 : (((w.alloc (.cells #[.int .i64 pn, .slice ap pk.length cp] 41)).alloc (.map #[] 0)).alloc (.cells #[.map (some (w.heap.size + 1))] 131)).heap.size = w.heap.size + 3 := by simp
  have hx0 : (((w.alloc (.cells #[.int .i64 pn, .slice ap pk.length cp] 41)).alloc (.map #[] 0)).alloc (.cells #[.map (some (w.heap.size + 1))] 131)).heap[w.heap.size]? = some (.cells #[.int .i64 pn, .slice ap pk.length cp] 41 (0, 0)) := hp_alloc (hp_alloc (hp_new _ _) _) _
  have hM0 : (((w.alloc (.cells #[.int .i64 pn, .slice ap pk.length cp] 41)).alloc (.map #[] 0)).alloc (.cells #[.map (some (w.heap.size + 1))] 131)).heap[w.heap.size + 1]? = some (.map #[] 0) := by
    have := hp_alloc (hp_new (w.alloc (.cells #[.int .i64 pn, .slice ap pk.length cp] 41)) (.map #[] 0)) (.cells #[.map (some (w.heap.size + 1))] 131)
    simpa using this
  have hw0 : (((w.alloc (.cells #[.int .i64 pn, .slice ap pk.length cp] 41)).alloc (.map #[] 0)).alloc (.cells #[.map (some (w.heap.size + 1))] 131)).heap[w.heap.size + 2]? = some (.cells #[.map (some (w.heap.size + 1))] 131 (0, 0)) := by
    have := hp_new ((w.alloc (.cells #[.int .i64 pn, .slice ap pk.length cp] 41)).alloc (.map #[] 0)) (.cells #[.map (some (w.heap.size + 1))] 131)
    simpa using this
  have hkl : t.kl.length = m := by rw [hm, h.pl.length_eq]; simp [encL]
  have hmk := making_gen ((hb0.cell hdl).trans c2) (h.hL.below hb0) (hW.nowf (by omega) h) (by omega)
  rw [si_files h hW, hkl] at hmk
  obtain ⟨W0, hW0⟩ : ∃ W0, W0 = (((w.alloc (.cells #[.int .i64 pn, .slice ap pk.length cp] 41)).alloc (.map #[] 0)).alloc (.cells #[.map (some (w.heap.size + 1))] 131)) := ⟨_, rfl⟩
  have hQ := hmk
  rw [← hW0] at hb0 hsz0 hx0 hM0 hw0
  have HW0 := hid hW0
  have HI := hid (And.intro hb0 (And.intro hsz0 (And.intro hx0 (And.intro hM0 hw0))))
  have HC := hid hQ
  have H := hid (And.intro h hW)
  have HPK := hid (And.intro hpk (And.intro hll hsep))
  have HM := hid hm
  clear hb0 hsz0 hx0 hM0 hw0 hW0 hmk hQ hkl h3 h4 h hW hpk hll hsep hm c0 c1 c2 c3 c4 c5 c6 c7 c8 c9 c10 c11
  go_enter Tryz.func28, Tryz.ntmps28
  go_wp2_with (
    go_at_call 73
    refine HC.out.mono ?_
    rintro e w1 ⟨v, rfl, ho, hnil, hb1⟩
    rw [← HW0.out] at ho hb1
    obtain ⟨ao, cap, rfl⟩ := own_shape ho
    have HB1 := hid (And.intro ho hb1)
    clear ho hnil hb1)
  obtain ⟨hb0, hsz0, hx0, hM0, hw0⟩ := HI.out
  obtain ⟨ho1, hb1⟩ := HB1.out
  have hbw1 : Below w.heap.size w w1 := hb0.trans (hb1.mono (by omega))
  have hz1 := hb1.size
  have hx1 := hp_below hx0 hb1 (by omega)
  have hM1 := hp_below hM0 hb1 (by omega)
  have hw1 := hp_below hw0 hb1 (by omega)
  have HJ := hid (And.intro hbw1 (And.intro hx1 (And.intro hM1 (And.intro hw1 (And.intro ho1 (And.intro hz1 hsz0))))))
  clear hb0 hsz0 hx0 hM0 hw0 ho1 hb1 hbw1 hz1 hx1 hM1 hw1 HI HB1 HC HW0
  go_loopw [18] (fun i wr => ∃ (k : Nat) (ft' : Int → Nat → Prop) (kv : List (Int × Value)) (es : Array MapEntry) (c : Nat), k ≤ m ∧ i = .int .i64 k ∧ Hid (CrI w wr d t D (pksOf pk) k (w.heap.size + 1) ft' kv es c ∧ Kept (fun j => Dft d t D j ∨ j = w.heap.size + 1) w1 wr)) (fun i _ => m - (intOf i).toNat)
  case atStart =>
    obtain ⟨hbw1, hx1, hM1, hw1, ho1, hz1, hsz0⟩ := HJ.out
    exact ⟨0, t.ft, [], #[], 0, Nat.zero_le _, by go_num, hid ⟨crI_zero H.out.1 hbw1 hM1 _, Kept.refl _ _⟩⟩
  case round =>
    obtain ⟨k, ft', kv, es, c, hk, rfl, HR⟩ := hrel
    obtain ⟨hbw1, hx1, hM1, hw1, ho1, hz1, hsz0⟩ := HJ.out
    obtain ⟨hI, hkp⟩ := HR.out
    have hnd : ∀ j, Dft d t D j → j < w.heap.size := fun j e => H.out.1.lt j e
    have hxr := hp_kept hx1 hkp (by rintro (e | e); have := hnd _ e; omega; omega)
    have hwr := hp_kept hw1 hkp (by rintro (e | e); have := hnd _ e; omega; omega)
    obtain ⟨q0, q1⟩ := cells2 hxr
    have q2 : wr.cell? ⟨w.heap.size + 2, 0, none⟩ = some (.map (some (w.heap.size + 1))) := by rw [cell_of_row wr _ 0 _ _ _ hwr]; rfl
    obtain ⟨-, -, e2, -, -, e5, e6, -⟩ := hI.g.dk.disk.cells
    have hdr := hp_lt hI.g.dk.disk
    have hwrl := hp_lt hwr
    have r4 : w.heap.size < wr.heap.size := by omega
    by_cases hlt : k < m
    · have i2 : (k : Int) < (m : Int) := by omega
      have hkf : k < D.files.length := by rw [← HM.out]; exact hlt
      obtain ⟨f, hfe⟩ : ∃ f, f = D.files[k] := ⟨_, rfl⟩
      have hf : D.files[k]? = some f := by rw [hfe]; exact List.getElem?_eq_getElem hkf
      obtain ⟨g, cc, e⟩ := own_some ho1 (by omega)
      injection e with e1 e2' e3
      subst e1 e3
      clear e2'
      have hc1 := ho1.cells (g := g) rfl k (encZ f.no) (by simp [hkf, hfe])
      rw [add_lit, Nat.zero_add] at hc1
      have hgl := (ho1.lt g rfl).1
      have hcn : wr.cell? ⟨g, k, none⟩ = some (.int .i64 f.no) := hkp.cell hc1 (by rintro (e | e); have := hnd _ e; dsimp only at this; omega; dsimp only at e; omega)
      have hfm : f ∈ (crashD (pksOf pk) k D).files := List.mem_of_getElem? (crashTo_get (pksOf pk) k D.files k f hf (Nat.le_refl _))
      have hWk := H.out.2.crashD (pksOf pk) k
      have hf0 : f ∈ D.files := List.mem_of_getElem? hf
      have hpkf := H.out.2.peak hf0
      have hcsf := H.out.2.chg f hf0
      -- what is picked
      have hpick : ∃ (dn : Int) (al : Option Addr) (cl : Nat) (lost : List Int), I64 dn ∧ Ln wr (.slice al lost.length cl) lost ∧ (∀ x ∈ lost, I64 x) ∧ lost.length ≤ 1000 ∧ pkAt (pksOf pk) k = (dn, lost) ∧ ((k < pk.length ∧ ∃ b off, ap = some ⟨b, off, none⟩ ∧ wr.cell? ⟨b, off + k * 2, none⟩ = some (.int .i64 dn) ∧ wr.cell? ⟨b, off + k * 2 + 1, none⟩ = some (.slice al lost.length cl)) ∨ (¬ k < pk.length ∧ dn = 0 ∧ lost = [] ∧ al = none ∧ cl = 0)) := by
        obtain ⟨hpk, hll, hsep⟩ := HPK.out
        by_cases hkp2 : k < pk.length
        · have hmem : pk[k] ∈ pk := List.getElem_mem hkp2
          obtain ⟨o1, o2, o3, o4⟩ := hpk.2 _ hmem
          obtain ⟨al, cl, hlv, _, _⟩ := o2.shape
          have hrow := Rf.keptE hpk.1 hI.g.kp (fun h0 j e => hsep j (.inl ⟨h0, e⟩))
          obtain ⟨b, off, cap9, e9, _, _, hcl⟩ := hrow.lits (by omega) (by omega)
          injection e9 with e9 _ e10
          obtain ⟨r1, r2⟩ := pcs_get pk k pk[k] (List.getElem?_eq_getElem hkp2)
          refine ⟨pk[k].done, al, cl, pk[k].lost, o1, ?_, o3, hll _ hmem, pkAt_some pk k hkp2, .inl ⟨hkp2, b, off, e9, hcl _ _ r1, ?_⟩⟩
          · rw [← hlv]
            exact Rf.keptE o2 hI.g.kp (fun h0 j e => hsep j (.inr ⟨_, hmem, h0, e⟩))
          · rw [← hlv]
            have := hcl _ _ r2
            rw [← Nat.add_assoc] at this
            exact this
        · exact ⟨0, none, 0, [], ⟨by omega, by omega⟩, rf_nil _ _, by simp, by simp, pkAt_none pk k hkp2, .inr ⟨hkp2, rfl, rfl, rfl, rfl⟩⟩
      obtain ⟨dn, al, cl, lost, p1, p2, p3, p4, p5, p6⟩ := hpick
      have hwa : Below wr.heap.size wr (wr.alloc (.cells #[.int .i64 dn, .slice al lost.length cl] 91)).drew := ((Below.refl _ wr).alloc (Nat.le_refl _) _).drew
      have hDa := hI.g.dk.below hwa
      have hlk : (Instr.lookup 46 (.map (some t.L)) (.int .i64 f.no) false).run Tryz.prog (wr.alloc (.cells #[.int .i64 dn, .slice al lost.length cl] 91)).drew = .ok (.pointer (some ⟨t.pt f.no, 0, none⟩)) (wr.alloc (.cells #[.int .i64 dn, .slice al lost.length cl] 91)).drew := hDa.lookL hWk hfm 0
      have hcall := crash_fil (hDa.fil f hfm) hcsf.2 dn p1 (.slice al lost.length cl) lost (Rf.below p2 hwa) p3 (by omega) (by omega) (by omega)
      have hpd : Dft d t D (t.pt f.no) := .inr (.inr (.inr (.inr (.inr (.inr (.inr ⟨f, hf0, (H.out.1.fil f hf0).self⟩))))))
      have hpt := hnd _ hpd
      have hdp : d ≠ t.pt f.no := fun e => H.out.1.apart.2.2.2.2.2.2 f hf0 (by rw [e]; exact (H.out.1.fil f hf0).self)
      have hstep : ∀ (w2 : World) (X : Nat) (ftf : Nat → Prop), (wr.alloc (.cells #[.int .i64 dn, .slice al lost.length cl] 91)).drew.heap.size ≤ X → Own w2 X (wholeF dn f).1 → Fil w2 ftf (t.pt f.no) (crashF (dn, lost) f) → (∀ j, ftf j → j = t.pt f.no ∨ ((wr.alloc (.cells #[.int .i64 dn, .slice al lost.length cl] 91)).drew.heap.size ≤ j ∧ j ≠ X)) → Kept (fun j => j = t.pt f.no) (wr.alloc (.cells #[.int .i64 dn, .slice al lost.length cl] 91)).drew w2 →
          (∃ es' c', (Instr.mapUpdate 131 (.map (some (w.heap.size + 1))) (.int .i64 f.no) (.slice (some ⟨X, 0, none⟩) (wholeF dn f).1.length (wholeF dn f).1.length)).run Tryz.prog w2 = .ok () (puts w2 (w.heap.size + 1) (.map es' c')) ∧
            CrI w (puts w2 (w.heap.size + 1) (.map es' c')) d t D (pksOf pk) (k + 1) (w.heap.size + 1) (fun m => if m = f.no then ftf else ft' m) (kv ++ [(f.no, .slice (some ⟨X, 0, none⟩) (wholeF dn f).1.length (wholeF dn f).1.length)]) es' c' ∧ Kept (fun j => j = t.pt f.no ∨ j = w.heap.size + 1) wr (puts w2 (w.heap.size + 1) (.map es' c'))) := by
        intro w2 X ftf a1 a2 a3 a4 a5
        have := hI.step H.out.1 H.out.2 hf (Nat.le_succ _) hwa a1 (by rw [p5]; exact a2) (by rw [p5]; exact a3) a4 a5
        simp only [p5] at this
        exact this
      have HStep := hid hstep
      have HCall := hid hcall
      have HKP := hid hkp
      clear hstep hcall hkp hI HR hDa p1 p2 p3 p5 ho1 hx1 hM1 hw1 hbw1 hxr hwr hcsf hWk hfe hf hc1 e5 e6 hfm hf0 hkf
      rcases p6 with ⟨p6, b, off, p7, g1, g2⟩ | ⟨p6, p7, p8, p9, p10⟩
      · subst p7
        have r5 : b < wr.heap.size := World.block_lt_of_cell? _ _ g1
        have i5 := (show (k : Int) < (pk.length : Int) by omega)
        go_wp2_with fail
        go_region_held (fun w' => w'.cell? ⟨w.heap.size + 2, 0, none⟩ = some (.map (some (w.heap.size + 1))) ∧ w'.cell? ⟨d, 2, none⟩ = some (.map (some t.L)) ∧ w'.cell? ⟨wr.heap.size, 0, none⟩ = some (.int .i64 dn) ∧ w'.cell? ⟨wr.heap.size, 1, none⟩ = some (.slice al lost.length cl)) (go_keep) ((
          go_at_call 93
          refine HCall.out.mono ?_
          rintro e w2 ⟨X, ftf, rfl, hX, hO, hF, hft, hk2⟩
          obtain ⟨es', c', hu, hI', hkk⟩ := HStep.out w2 X ftf hX hO hF hft hk2
          have y1 : w2.cell? ⟨w.heap.size + 2, 0, none⟩ = some (.map (some (w.heap.size + 1))) := hk2.cell ((hwa.cell (World.block_lt_of_cell? _ _ q2)).trans q2) (by simp; omega)
          have y2 : w2.cell? ⟨d, 2, none⟩ = some (.map (some t.L)) := hk2.cell ((hwa.cell (World.block_lt_of_cell? _ _ e2)).trans e2) (by simp; exact hdp)
          have y3 : w2.cell? ⟨wr.heap.size, 0, none⟩ = some (.int .i64 dn) := hk2.cell (by simp [go_sem]) (by simp; omega)
          have y4 : w2.cell? ⟨wr.heap.size, 1, none⟩ = some (.slice al lost.length cl) := hk2.cell (by simp [go_sem]) (by simp; omega)
          have kz : Kept (fun j => j = w.heap.size + 1) w2 (puts w2 (w.heap.size + 1) (.map es' c')) := (Kept.refl (fun j => j = w.heap.size + 1) w2).puts (fun _ => rfl) _
          have z1 := kz.cell y1 (by simp)
          have z2 := kz.cell y2 (by simp; omega)
          have z3 := kz.cell y3 (by simp; omega)
          have z4 := kz.cell y4 (by simp; omega)
          have HX := hid (And.intro hI' hkk)
          clear hX hO hF hft hk2 hI' hkk kz))
        go_wp2
        go_roundw
        case rel =>
          obtain ⟨hI', hkk⟩ := HX.out
          exact ⟨k + 1, _, _, es', c', by omega, by go_num, hid ⟨hI', HKP.out.trans hkk (fun i hi e => by
            rcases e with e | e
            · exact .inl (by rw [e]; exact hpd)
            · exact .inr e)⟩⟩
        case measure => simp [intOf]; omega
      · subst p7 p8 p9 p10
        simp only [List.length_nil] at hlk hwa
        have i5 := (show ¬ (k : Int) < (pk.length : Int) by omega)
        go_wp2_with fail
        go_region_held (fun w' => w'.cell? ⟨w.heap.size + 2, 0, none⟩ = some (.map (some (w.heap.size + 1))) ∧ w'.cell? ⟨d, 2, none⟩ = some (.map (some t.L)) ∧ w'.cell? ⟨wr.heap.size, 0, none⟩ = some (.int .i64 0) ∧ w'.cell? ⟨wr.heap.size, 1, none⟩ = some (.slice none 0 0)) (go_keep) ((
          go_at_call 93
          refine HCall.out.mono ?_
          rintro e w2 ⟨X, ftf, rfl, hX, hO, hF, hft, hk2⟩
          obtain ⟨es', c', hu, hI', hkk⟩ := HStep.out w2 X ftf hX hO hF hft hk2
          have y1 : w2.cell? ⟨w.heap.size + 2, 0, none⟩ = some (.map (some (w.heap.size + 1))) := hk2.cell ((hwa.cell (World.block_lt_of_cell? _ _ q2)).trans q2) (by simp; omega)
          have y2 : w2.cell? ⟨d, 2, none⟩ = some (.map (some t.L)) := hk2.cell ((hwa.cell (World.block_lt_of_cell? _ _ e2)).trans e2) (by simp; exact hdp)
          have y3 : w2.cell? ⟨wr.heap.size, 0, none⟩ = some (.int .i64 0) := hk2.cell (by simp [go_sem]) (by simp; omega)
          have y4 : w2.cell? ⟨wr.heap.size, 1, none⟩ = some (.slice none 0 0) := hk2.cell (by simp [go_sem]) (by simp; omega)
          have kz : Kept (fun j => j = w.heap.size + 1) w2 (puts w2 (w.heap.size + 1) (.map es' c')) := (Kept.refl (fun j => j = w.heap.size + 1) w2).puts (fun _ => rfl) _
          have z1 := kz.cell y1 (by simp)
          have z2 := kz.cell y2 (by simp; omega)
          have z3 := kz.cell y3 (by simp; omega)
          have z4 := kz.cell y4 (by simp; omega)
          have HX := hid (And.intro hI' hkk)
          clear hX hO hF hft hk2 hI' hkk kz))
        go_wp2
        go_roundw
        case rel =>
          obtain ⟨hI', hkk⟩ := HX.out
          exact ⟨k + 1, _, _, es', c', by omega, by go_num, hid ⟨hI', HKP.out.trans hkk (fun i hi e => by
            rcases e with e | e
            · exact .inl (by rw [e]; exact hpd)
            · exact .inr e)⟩⟩
        case measure => simp [intOf]; omega
    · have i3 : ¬ ((k : Int) < (m : Int)) := by omega
      have ek : k = m := by omega
      subst ek
      obtain ⟨Dm, hDm⟩ : ∃ Dm, Dm = crashD (pksOf pk) k D := ⟨_, rfl⟩
      obtain ⟨tm, htm⟩ : ∃ tm, tm = { t with ft := ft' } := ⟨_, rfl⟩
      have hg := hI.g
      rw [← hDm, ← htm] at hg
      have hNF : tm.F = t.F ∧ tm.eF = t.eF ∧ tm.cF = t.cF ∧ tm.k1 = t.k1 ∧ tm.k2 = t.k2 ∧ tm.vn = t.vn := by rw [htm]; exact ⟨rfl, rfl, rfl, rfl, rfl, rfl⟩
      have hDs : Dm.turns = D.turns ∧ Dm.safeN = D.safeN := by rw [hDm]; exact ⟨rfl, rfl⟩
      obtain ⟨K, hK⟩ : ∃ K, K = firstN pn D.turns.length := ⟨_, rfl⟩
      have hKle : K ≤ D.turns.length := by rw [hK]; exact firstN_le _ _
      have hWm : WD n Dm := by rw [hDm]; exact H.out.2.crashD _ _
      have hnam : wr.ownsRow 0 121 3 t.vn D.turns.length (encT D.turns) := by
        have := hg.dk.nam
        rw [hNF.2.2.2.2.2, hDs.1] at this
        exact this
      have hF := hg.dk.hF
      have hpf := hg.dk.pf
      rw [hNF.1, hNF.2.1, hNF.2.2.1] at hF
      rw [hDs.2] at hpf
      obtain ⟨aT, cT, hrunT, hT⟩ := ownT_to hnam K hKle
      obtain ⟨av, cv, hvn⟩ := own_shape hnam
      have hTl := H.out.2.tur
      have hrnd : ∀ w, Calls Tryz.prog 94 #[.int .i64 pn, .int .i64 ((D.turns.length : Int) + 1)] w fun x w' => x = .returned (.int .i64 (K : Nat)) ∧ w' = w := fun w => by
        rw [hK]
        exact round_first pn _ w hpn (by omega)
      have hb4 : Below wr.heap.size wr (wr.alloc (.map t.eF t.cF)) := (Below.refl _ _).alloc (Nat.le_refl _) _
      have hN4 : MG KS (wr.alloc (.map t.eF t.cF)) wr.heap.size tm.kf t.eF t.cF := ⟨hp_new _ _, hF.hold, hF.nd, hF.kvs, hF.keys⟩
      have e5' : wr.cell? ⟨d, 5, none⟩ = some (.map (some t.F)) := by rw [← hNF.1, htm]; exact e5
      have e6' : wr.cell? ⟨d, 6, none⟩ = some (.slice av D.turns.length cv) := by rw [← hvn]; exact e6
      rw [hvn] at hrunT
      have HFb := hid hF.blk
      have HT := hid (And.intro hnam hT)
      have HG := hid (And.intro hg (And.intro hI (And.intro hWm (And.intro hpf (And.intro hNF (And.intro hDs (And.intro hDm hK)))))))
      have HRN := hid hrnd
      have HXW := hid (And.intro hwr hnd)
      clear hg hI HR hWm hpf hDs hNF hDm hK hnam hF hT hrnd hkp hxr hwr hx1 hM1 hw1 ho1 hbw1 e2 e5 e6 hvn HJ htm
      go_wp2_with (
        go_at_call 90
        refine (mapsClone_any t.F t.eF t.cF _ HFb.out).mono ?_
        rintro e w4 ⟨rfl, e1⟩
        rw [e1]
        clear e1 w4)
      have y0 := (hb4.cell (World.block_lt_of_cell? _ _ q0)).trans q0
      have y6 := (hb4.cell (World.block_lt_of_cell? _ _ e6')).trans e6'
      obtain ⟨W4, hW4⟩ : ∃ W4, W4 = wr.alloc (.map t.eF t.cF) := ⟨_, rfl⟩
      rw [← hW4] at hb4 hN4 y0 y6 ⊢
      have hz4 : W4.heap.size = wr.heap.size + 1 := by rw [hW4]; simp
      have H4 := hid (And.intro hb4 hN4)
      clear hW4 hb4 hN4 e5' e6' q0 q1 q2
      go_quiet ((go_at_call 94; exact Calls.quiet_of_same (HRN.out _)))
      go_wp2
      go_loopw [64] (fun i ws => ∃ (j : Nat) (nv : List (ByteArray × Value)) (es2 : Array MapEntry) (c2 : Nat), j ≤ K ∧ i = .int .i64 j ∧ Hid (MG KS ws wr.heap.size nv es2 c2 ∧ nv.Perm (encN (D.namesAt j)) ∧ Kept (fun q => q = wr.heap.size) W4 ws)) (fun i _ => K - (intOf i).toNat)
      case atStart =>
        refine ⟨0, tm.kf, t.eF, t.cF, Nat.zero_le _, by go_num, hid ⟨?_, HG.out.2.2.2.1, (Kept.refl _ W4).drewQ nq⟩⟩
        exact H4.out.2.below (below_drewN (Below.refl _ _) nq)
      case round =>
        rename World => ws
        obtain ⟨j, nv, es2, c2, hj, rfl, HJ2⟩ := hrel
        obtain ⟨hMs, hps, hks⟩ := HJ2.out
        have hsz := hks.size
        by_cases hjl : j < K
        · have i4 : (j : Int) < (K : Int) := by omega
          have hjt : j < D.turns.length := by omega
          obtain ⟨x, hx⟩ : ∃ x, x = D.turns[j] := ⟨_, rfl⟩
          have hxg : D.turns[j]? = some x := by rw [hx]; exact List.getElem?_eq_getElem hjt
          obtain ⟨hnam, hT⟩ := HT.out
          obtain ⟨gT, e1, hgo⟩ := hT (by omega)
          subst e1
          obtain ⟨r1, r2, r3⟩ := encT_get D.turns j x hxg
          have hgl := (hnam.lt gT hgo).2
          have cc : ∀ o v, (encT D.turns)[o]? = some v → ws.cell? ⟨gT, o, none⟩ = some v := fun o v hv => by
            have h1 := hnam.cells (g := gT) hgo o v hv
            rw [add_lit, Nat.zero_add] at h1
            exact hks.cell ((H4.out.1.cell (World.block_lt_of_cell? _ _ h1)).trans h1) (by dsimp only; omega)
          have k0 := cc _ _ r1
          have k1 := cc _ _ r2
          have k2 := cc _ _ r3
          have r7 : gT < ws.heap.size := by omega
          have hcall := do_gen x.1 x.2.1 x.2.2 wr.heap.size nv es2 c2 (ws.alloc (.cells #[.string x.1, .string x.2.1, .int .i64 x.2.2] 121)) (hMs.below ((Below.refl _ _).alloc (Nat.le_refl _) _))
          have HCa := hid hcall
          have HX2 := hid (And.intro hps (And.intro hks (And.intro hxg hMs.keys)))
          clear hcall hps hks hx hxg hMs hnam hT r1 r2 r3 cc HJ2
          go_wp2_with (
            go_at_call 95
            refine HCa.out.mono ?_
            rintro e w5 ⟨rfl, ⟨es3, c3, hM3⟩, hk3⟩
            have H5 := hid (And.intro hM3 hk3)
            clear hM3 hk3)
          go_roundw
          case rel =>
            obtain ⟨hM3, hk3⟩ := H5.out
            obtain ⟨hps, hks, hxg, hkeys⟩ := HX2.out
            refine ⟨j + 1, _, es3, c3, by omega, by go_num, hid ⟨hM3, ?_, ?_⟩⟩
            · rw [namesAt_succ D j x hxg]
              exact doN_perm x.1 x.2.1 x.2.2 hps hkeys
            · exact (hks.trans ((Kept.refl (fun q => q = wr.heap.size) ws).alloc _) (fun _ _ e => e)).trans hk3 (fun _ _ e => e)
          case measure => simp [intOf]; omega
        · have i5 : ¬ (j : Int) < (K : Int) := by omega
          have ej : j = K := by omega
          subst ej
          obtain ⟨hg, hI, hWm, hpf, hNF, hDs, hDm, hK⟩ := HG.out
          have hcn : crashNm pn D = D.namesAt j := by unfold crashNm; rw [hK]
          have hnok : NOK Dm.files (crashNm pn D) := by
            rw [hcn]
            have := hWm.saf j
            have e : Dm.namesAt j = D.namesAt j := by unfold Dq.namesAt; rw [hDs.1, hDs.2]
            rw [e] at this
            exact this
          have hkrs : Kept (fun q => q = wr.heap.size) wr ws := ((Kept.ofBelow H4.out.1).mono (fun _ _ e => e.elim)).trans hks (fun _ _ e => e)
          have hds : DkT ws d tm Dm := hg.dk.kept hkrs (fun q e e2 => by have := hg.dk.lt q e; omega)
          have hst := settle_dk hds hWm.nd wr.heap.size c2 nv es2 hMs (crashNm pn D) (by rw [hcn]; exact hps) hnok (fun b e => by
            rw [hNF.2.2.2.1, hNF.2.2.2.2.1] at e
            have : b < w.heap.size := by
              rcases e with e | e
              · exact H.out.1.lt b (.inr (.inr (.inr (.inr (.inr (.inl e))))))
              · exact H.out.1.lt b (.inr (.inr (.inr (.inr (.inr (.inr (.inl e)))))))
            omega)
          have HST := hid hst
          have HS := hid (And.intro hMs (And.intro hps (And.intro hkrs (And.intro hds (And.intro hcn hnok)))))
          clear hst hMs hps hkrs hds hcn hnok hg hI hWm hpf hNF hDs hDm hK hks HJ2
          go_wp2_with (
            go_at_call 86
            refine HST.out.mono ?_
            rintro e w5 ⟨rfl, t5, h5, hk5, hf5, n1, n2, n3, n4⟩
            obtain ⟨-, -, -, -, -, -, -, z7, -⟩ := h5.disk.cells
            have zf := h5.disk.free
            have H5 := hid (And.intro h5 (And.intro hk5 hf5))
            clear h5 hk5 hf5 n1 n2 n3 n4)
          have k56 : Kept (fun q => q = d) w5 (w5.setCell ⟨d, 7, none⟩ (.bool false)) := (Kept.refl (fun q => q = d) w5).setCell (p := ⟨d, 7, none⟩) (fun _ => rfl) _
          have hG6 := H5.out.1.about k56 (D' := { settleD (crashNm pn D) Dm with off := false }) (set_block (i := 7) H5.out.1.disk _) rfl rfl rfl rfl rfl
          have hpl := plan_dk hG6.dk (.slice none 0 0) (.slice none 0 0) [] [] (rf_nil _ _) (rf_nil _ _) (by simp) (by simp) (by simp [Value.ownBlock])
          have HPL := hid hpl
          have HG6 := hid (And.intro k56 hG6)
          clear hpl k56 hG6
          go_wp2_with (
            go_at_call 19
            refine HPL.out.mono ?_
            rintro e w7 ⟨rfl, t7, hG7, hk7⟩
            have H7 := hid (And.intro hG7 hk7)
            clear hG7 hk7)
          obtain ⟨hMs, hps, hkrs, hds, hcn, hnok⟩ := HS.out
          obtain ⟨h5, hk5, hf5⟩ := H5.out
          obtain ⟨k56, hG6⟩ := HG6.out
          obtain ⟨hG7, hk7⟩ := H7.out
          obtain ⟨hwr, hnd⟩ := HXW.out
          obtain ⟨hg, hI, hWm, hpf, hNF, hDs, hDm, hK⟩ := HG.out
          have kd7 : Kept (fun q => q = d) ws w7 := (hk5.trans k56 (fun _ _ e => e)).trans hk7 (fun _ _ e => e)
          have hdw : d < w.heap.size := hdl
          have kr7 : Kept (fun q => q = d ∨ q = wr.heap.size) wr w7 := (hkrs.mono (fun _ _ e => .inr e)).trans kd7 (fun _ _ e => .inl e)
          have hM7 : MG KS w7 wr.heap.size nv es2 c2 := hMs.kept kd7 (by omega)
          have hw7 := hp_kept hwr kr7 (by omega)
          have x7 : w7.cell? ⟨w.heap.size + 2, 0, none⟩ = some (.map (some (w.heap.size + 1))) := by rw [cell_of_row w7 _ 0 _ _ _ hw7]; rfl
          have hMM : MG KI w7 (w.heap.size + 1) kv es c := hI.m.kept kr7 (by omega)
          have hlen : (crashNm pn D).length ≤ 1000000 := by
            have h1 := hWm.nlen hnok
            have h2 := hWm.cnt
            have h3 := hWm.lim
            omega
          have hz7 := kr7.size
          have htold := told_dkB w.heap.size wr.heap.size c2 97 nv es2 #[.pointer (some ⟨w.heap.size + 2, 0, none⟩)] (crashNm pn D) (wholeN (pksOf pk) D) w7 hM7 (by rw [hcn]; exact hps) hnok.ok hlen (by omega) (enters_of Tryz.func97 (by kernel_rfl) rfl) (fun x hx wx hbx => by
            have hx2 := hnok.l x hx
            rw [hDm] at hx2
            have hx3 : x.2 ∈ D.files.map Fi.no := by
              have e := crashTo_no (pksOf pk) j D.files
              rw [← crashTo_no (pksOf pk) k D.files]
              exact hx2
            obtain ⟨f, hf, ef⟩ := List.mem_map.1 hx3
            obtain ⟨i, hi⟩ := List.mem_iff_getElem?.1 hf
            have hil : i < k := by
              have := (List.getElem?_eq_some_iff.1 hi).1
              rw [HM.out]
              exact this
            obtain ⟨Y, y1, y2, y3⟩ := hI.row i f hil hi
            rw [← ef, wholeN_at (pksOf pk) D H.out.2.nd i f hi]
            have hYr := hp_lt y2
            have hO7 : Own w7 Y (wholeF (pkAt (pksOf pk) i).1 f).1 := hp_kept y2 kr7 (by omega)
            refine (crash1_gen (w.heap.size + 2) (w.heap.size + 1) c kv es f.no _ wx ((hbx.cell (World.block_lt_of_cell? _ _ x7)).trans x7) (hMM.below hbx) y1).mono ?_
            rintro e w8 ⟨rfl, rfl⟩
            exact ⟨Y, rfl, hp_below hO7 hbx (hp_lt hO7), y3, Below.refl _ _⟩)
          have hGw : Goes d w t D w7 t7 (crashP pn (pksOf pk) D).2 := by
            have g1 : Goes d wr tm Dm w5 t5 (settleD (crashNm pn D) Dm) := by
              refine ⟨h5, (hkrs.mono (S' := Dft d tm Dm) (fun q hq e => by omega)).trans hk5 (fun _ _ e => .inl e), fun q e => ?_⟩
              rcases hf5 q e with e | e | e
              · exact .inl e
              · exact .inr (Nat.le_trans hkrs.size e)
              · exact .inr (by omega)
            have g2 := ((hg.trans g1).trans hG6).trans hG7
            have e9 : planD [] [] { settleD (crashNm pn D) Dm with off := false } = (crashP pn (pksOf pk) D).2 := by
              rw [hDm, HM.out]
              rfl
            rw [e9] at g2
            exact g2
          have HTO := hid htold
          have HGW := hid hGw
          clear hMs hps hkrs hds hcn hnok h5 hk5 hf5 k56 hG6 hG7 hk7 hwr hnd hg hI hWm hpf hNF hDs hDm hK kd7 kr7 hM7 hw7 x7 hMM hlen htold hGw
          go_wp2_with (
            go_at_call 96
            refine HTO.out.mono ?_
            rintro e w8 ⟨v, rfl, hF8, hb8⟩
            have H8 := hid (And.intro hF8 hb8)
            clear hF8 hb8)
          go_ret
          exact ⟨v, t7, rfl, H8.out.1, HGW.out.trans (Goes.still HGW.out.dk H8.out.2)⟩

end
end Go.Proofs.YtlmompdfombgeaaGreat

namespace Go.Proofs.YtlmompdfombgeaaGreat
open Go.RowKit Go.MapKept

/-- The bytes of files. -/
def szF (l : List (ByteArray × List Int)) : Nat := (l.map fun x => x.2.length).sum

theorem fb_get : ∀ (l : List (ByteArray × List Int)) (ys : List Nat) (k : Nat) (x : ByteArray × List Int) (Y : Nat), l[k]? = some x → ys[k]? = some Y →
    ((l.zip ys).flatMap fun x => [Value.string x.1.1, .slice (some ⟨x.2, 0, none⟩) x.1.2.length x.1.2.length])[k * 2]? = some (.string x.1) ∧ ((l.zip ys).flatMap fun x => [Value.string x.1.1, .slice (some ⟨x.2, 0, none⟩) x.1.2.length x.1.2.length])[k * 2 + 1]? = some (.slice (some ⟨Y, 0, none⟩) x.2.length x.2.length)
  | [], _, _, _, _, h, _ => by simp at h
  | _ :: _, [], _, _, _, _, h => by simp at h
  | y :: l, z :: ys, 0, x, Y, h, h2 => by
    simp at h h2
    subst h h2
    exact ⟨rfl, rfl⟩
  | y :: l, z :: ys, k + 1, x, Y, h, h2 => by
    have := fb_get l ys k x Y (by simpa using h) (by simpa using h2)
    rw [List.zip_cons_cons, List.flatMap_cons]
    refine ⟨?_, ?_⟩
    · rw [List.getElem?_append_right (by simp; omega)]
      simp only [List.length_cons, List.length_nil]
      rw [show (k + 1) * 2 - (0 + 1 + 1) = k * 2 by omega]
      exact this.1
    · rw [List.getElem?_append_right (by simp; omega)]
      simp only [List.length_cons, List.length_nil]
      rw [show (k + 1) * 2 + 1 - (0 + 1 + 1) = k * 2 + 1 by omega]
      exact this.2

theorem FbAt.shape {w : World} {B : Nat} {v : Value} {l : List (ByteArray × List Int)} (h : FbAt w B v l) : ∃ ao cap, v = .slice ao l.length cap := by
  obtain ⟨ys, _, h2, _⟩ := h
  exact own_shape h2

theorem FbAt.at {w : World} {B : Nat} {v : Value} {l : List (ByteArray × List Int)} (h : FbAt w B v l) (h0 : 0 < l.length) : ∃ g cap, v = .slice (some ⟨g, 0, none⟩) l.length cap ∧ ∀ i x, l[i]? = some x → ∃ Y, w.cell? ⟨g, i * 2, none⟩ = some (.string x.1) ∧ w.cell? ⟨g, i * 2 + 1, none⟩ = some (.slice (some ⟨Y, 0, none⟩) x.2.length x.2.length) ∧ Own w Y x.2 := by
  obtain ⟨ys, h1, h2, h3⟩ := h
  obtain ⟨g, cap, e⟩ := own_some h2 h0
  refine ⟨g, cap, e, fun i x hx => ?_⟩
  have hi := (List.getElem?_eq_some_iff.1 hx).1
  have hy : ys[i]? = some (ys[i]'(by omega)) := List.getElem?_eq_getElem _
  obtain ⟨c1, c2⟩ := fb_get l ys i x _ hx hy
  have q1 := h2.cells (g := g) (by rw [e]; rfl) _ _ c1
  have q2 := h2.cells (g := g) (by rw [e]; rfl) _ _ c2
  rw [add_lit, Nat.zero_add] at q1 q2
  exact ⟨_, q1, q2, (h3 i x _ hx hy).1⟩

theorem szF_take (l : List (ByteArray × List Int)) (k : Nat) (x : ByteArray × List Int) (h : l[k]? = some x) : szF (l.take (k + 1)) = szF (l.take k) + x.2.length := by
  unfold szF
  rw [List.take_add_one, h]
  simp

theorem szF_take_le (l : List (ByteArray × List Int)) (k : Nat) : szF (l.take k) ≤ szF l := sum_sub ((List.take_sublist k l).map _)

end Go.Proofs.YtlmompdfombgeaaGreat

namespace Go.Proofs.YtlmompdfombgeaaGreat
open Go.RowKit Go.MapKept

set_option maxRecDepth 100000 in
set_option maxHeartbeats 1600000 in
theorem new_ok (room files : Int) (w : World) (h0 : 0 ≤ room) (h1 : room ≤ 4194304) (h2 : 0 ≤ files) (h3 : files ≤ 512) :
    Calls Tryz.prog 9 #[.int .i64 room, .int .i64 files] w fun x w' => x = .returned (.tuple #[.pointer (some ⟨w.heap.size, 0, none⟩), .int .i64 0]) ∧ Zero w.heap.size w' w.heap.size (w.heap.size + 1) (w.heap.size + 2) (w.heap.size + 3) room files 0 0 0 0 0 ∧ Below w.heap.size w w' := by
  have hmm := @run_makeMap Tryz.prog
  go_enter Tryz.func9, Tryz.ntmps9
  go_wp2
  go_ret2
  refine ⟨rfl, ⟨?_, ?_, ?_, ?_, by omega, by omega⟩, ?_⟩
  · exact hp_alloc (hp_alloc (hp_alloc (hp_new _ _) _) _) _
  · have := hp_alloc (hp_alloc (hp_new (w.alloc (.cells #[.int .i64 room, .int .i64 files, .map (some (w.heap.size + 1)), .int .i64 0, .map (some (w.heap.size + 1 + 1)), .map (some (w.heap.size + 1 + 1 + 1)), .slice none 0 0, .bool false, .int .i64 0, .map none, .int .i64 0, .map none] 53)) (.map #[] 0)) (.map #[] 0)) (.map #[] 0)
    simpa using this
  · have := hp_alloc (hp_new ((w.alloc (.cells #[.int .i64 room, .int .i64 files, .map (some (w.heap.size + 1)), .int .i64 0, .map (some (w.heap.size + 1 + 1)), .map (some (w.heap.size + 1 + 1 + 1)), .slice none 0 0, .bool false, .int .i64 0, .map none, .int .i64 0, .map none] 53)).alloc (.map #[] 0)) (.map #[] 0)) (.map #[] 0)
    simpa using this
  · have := hp_new (((w.alloc (.cells #[.int .i64 room, .int .i64 files, .map (some (w.heap.size + 1)), .int .i64 0, .map (some (w.heap.size + 1 + 1)), .map (some (w.heap.size + 1 + 1 + 1)), .slice none 0 0, .bool false, .int .i64 0, .map none, .int .i64 0, .map none] 53)).alloc (.map #[] 0)).alloc (.map #[] 0)) (.map #[] 0)
    simpa using this
  · exact ((((Below.refl _ _).alloc (Nat.le_refl _) _).alloc (by simp) _).alloc (by simp; omega) _).alloc (by simp; omega) _

set_option maxRecDepth 100000 in
theorem strokes_any (d : Nat) (n : Int) (w : World) (h : w.cell? ⟨d, 8, none⟩ = some (.int .i64 n)) : Calls Tryz.prog 32 #[.pointer (some ⟨d, 0, none⟩)] w fun x w' => x = .returned (.int .i64 n) ∧ w' = w := by
  go_enter Tryz.func32, Tryz.ntmps32
  go_wp2
  go_ret
  exact ⟨rfl, rfl⟩

set_option maxRecDepth 100000 in
theorem reads_any (d : Nat) (n : Int) (w : World) (h : w.cell? ⟨d, 10, none⟩ = some (.int .i64 n)) : Calls Tryz.prog 33 #[.pointer (some ⟨d, 0, none⟩)] w fun x w' => x = .returned (.int .i64 n) ∧ w' = w := by
  go_enter Tryz.func33, Tryz.ntmps33
  go_wp2
  go_ret
  exact ⟨rfl, rfl⟩

section
variable {B : Nat} {w : World} {d L Nb Fb p : Nat} {nm : ByteArray} {room limit : Int} {sf : Array MapEntry} {st rd : Int} {safe : List Int} {cs : List Chg} {data : List Int} {fresh : List Bool} {peak : Int} {nn : Nat} {xs : List Value} {vn k1 k2 : Value} {pend : List Value} {vs vp vd vf : Value} {cL bL cN bN cF : Nat}

set_option maxRecDepth 100000 in
set_option maxHeartbeats 1600000 in
theorem read_one (h : One B w d L Nb Fb p nm room limit sf st rd safe cs data fresh peak nn xs vn k1 k2 pend vs vp vd vf cL bL cN bN cF) (hok : nmOK nm = true) (hs : nm.size ≤ maxLen) (hr0 : 0 ≤ rd) (hr1 : rd ≤ 1000000) (l2 : data.length ≤ 100000000) :
    Calls Tryz.prog 15 #[.pointer (some ⟨d, 0, none⟩), .string nm] w fun x w' => ∃ Y, x = .returned (.tuple #[.slice (some ⟨Y, 0, none⟩) data.length data.length, .int .i64 0]) ∧ Own w' Y data ∧ w'.cell? ⟨d, 10, none⟩ = some (.int .i64 (rd + 1)) ∧ w.heap.size ≤ Y ∧ Kept (fun k => k = d) w w' := by
  have hb0 : Below w.heap.size w (w.alloc (.cells #[.string nm] 9)) := (Below.refl _ _).alloc (Nat.le_refl _) _
  have g2 : (w.alloc (.cells #[.string nm] 9)).cell? ⟨w.heap.size, 0, none⟩ = some (.string nm) := by simp [go_sem]
  have hfind := (h.below hb0).find w.heap.size 0 g2 hok hs (by omega) (by omega)
  have HF := hid hfind
  have H := hid h
  have hdl := hp_lt h.disk
  clear h hfind g2
  go_enter Tryz.func15, Tryz.ntmps15
  go_wp2_with (first
    | (go_at_call 69
       refine HF.out.mono ?_
       rintro e w1 ⟨rfl, hb1⟩
       have HB1 := hid (hb0.trans (hb1.mono hb0.size))
       have hw1 := H.out.below HB1.out
       obtain ⟨-, -, -, -, -, -, -, -, -, -, c10, c11⟩ := hw1.disk.cells
       have hcnt := count_any d 10 rd k2 w1 _ _ hw1.disk c10 c11 hr0 (by omega) hw1.kn2
       have HCN := hid hcnt
       have HW1 := hid hw1
       clear hb1 hw1 hcnt c10 c11)
    | (go_at_call 70
       refine HCN.out.mono ?_
       rintro e w2 ⟨nq, rfl, hw2⟩
       have hk2 := (show Kept (fun k => k = d) w1 w2 from (by rw [hw2]; exact keptd (Below.refl _ _)))
       have hf2 := HW1.out.file.kept hk2 (fun e => hp_ne HW1.out.disk HW1.out.file.blk (by simp) e.symm) (fun k hq e => by subst e; exact own_ne_blk HW1.out.file.os HW1.out.disk (by decide) hq) (fun k hq e => by subst e; exact own_ne_blk HW1.out.file.op HW1.out.disk (by decide) hq) (fun k hq e => by subst e; exact own_ne_blk HW1.out.file.od HW1.out.disk (by decide) hq) (fun k hq e => by subst e; exact own_ne_blk HW1.out.file.of HW1.out.disk (by decide) hq)
       obtain ⟨-, -, p2, -, -⟩ := cells5 hf2.blk
       have hd2 := (show w2.cell? ⟨d, 10, none⟩ = some (.int .i64 (rd + 1)) from (by
         have := cell_of_row (w1.setCell ⟨d, 10, none⟩ (.int .i64 (rd + 1))) d 10 _ _ _ (set_block (i := 10) HW1.out.disk _)
         rw [hw2]
         simpa using this))
       obtain ⟨ad, cd, e0⟩ := own_shape hf2.od
       have hsl := sl_of_owns hf2.od
       rw [e0] at p2 hsl
       have H2 := hid (And.intro hk2 (And.intro hd2 hsl))
       clear hw2 hk2 hf2 hd2 hsl e0)
    | (go_at_call 71
       refine (copied_any _ data _ H2.out.2.2 (by omega)).mono ?_
       rintro e w3 ⟨rfl, ho, hb⟩
       have H3 := hid (And.intro ho hb)
       clear ho hb))
  go_ret2
  obtain ⟨hk2, hd2, hsl⟩ := H2.out
  obtain ⟨ho, hb⟩ := H3.out
  have hz1 := HB1.out.size
  have hz2 := hk2.size
  exact ⟨w2.heap.size, rfl, ho, (hb.cell (World.block_lt_of_cell? _ _ hd2)).trans hd2, by omega, (((Kept.ofBelow HB1.out).mono (fun _ _ e => e.elim)).trans hk2 (fun _ _ e => e)).trans (Kept.ofBelow hb) (fun _ _ e => e.elim)⟩

end
end Go.Proofs.YtlmompdfombgeaaGreat
