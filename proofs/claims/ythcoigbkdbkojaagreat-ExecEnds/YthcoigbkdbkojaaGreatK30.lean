import Derived.Test.YthcoigbkdbkojaaGreatK29
namespace Go.Proofs.YthcoigbkdbkojaaGreat
open Go.RowKit Go.MapKept
open V (hp_new hp_lt hp_below hp_alloc kl)

set_option maxRecDepth 100000 in
set_option maxHeartbeats 16000000 in
theorem ends_A (v : Value) (es : List (ByteArray × Vd)) (nm : ByteArray) (ar : Int) (ac : Option Addr) (cc : Nat) (xs : List Ins) (av : Value) (al : List Vd) (w : World) (dig : Int → List Int) (td : List Vd) (wl : List (ByteArray × Vd)) (lk : List (ByteArray × ByteArray)) (h : Rf w 4 v es.length (es.flatMap ecs)) (hc : CodeAt w (.slice ac xs.length cc) xs) (ha : Va w av al) (hl : xs.length ≤ 1000) (hla : al.length ≤ 1000)
    (hie : ∀ x ∈ es, inR x.2.i = true) (hi : ∀ x ∈ xs, inR x.i = true) (hv : ∀ x ∈ al, inR x.i = true) (hd : Digs dig w) (hf : efR dig (mdG (es.take 400)) nm ar xs al = ⟨1, 0, td, wl, lk⟩) (hE : EndsOk xs.length ⟨1, 0, td, wl, lk⟩) :
    Calls Tryz.prog 7 #[v, .agg #[.string nm, .int .i64 ar, .slice ac xs.length cc], av] w fun e w' => e = .returned (.bool true) ∧ Below w.heap.size w w' := by
  have hT : SOk (mdG (es.take 400)) := mdG_ok _
  have hTl : (mdG (es.take 400)).length ≤ 400 := mdG_len es 400
  have hTi : ∀ x ∈ mdG (es.take 400), inR x.2.i = true := fun x hx => hie x (List.mem_of_mem_take (mdG_mem hx))
  obtain ⟨aa, ca, eav, -, -⟩ : ∃ aa ca, av = .slice aa al.length ca ∧ True ∧ True := by obtain ⟨aa, ca, e, -⟩ := ha; exact ⟨aa, ca, e, trivial, trivial⟩
  subst eav
  have HA := hid (show ∀ W, Inn w (.cells #[.string nm, .int .i64 ar, .slice ac xs.length cc] 25) W → (W.cell? ⟨w.heap.size, 0, none⟩ = some (.string nm) ∧ W.cell? ⟨w.heap.size, 1, none⟩ = some (.int .i64 ar) ∧ W.cell? ⟨w.heap.size, 2, none⟩ = some (.slice ac xs.length cc)) ∧ Below w.heap.size w W from fun W hb => by
    have g1 := blk_of hb (hp_new w _) (Nat.lt_succ_self _)
    exact ⟨⟨by rw [cell_of_row _ _ _ _ _ _ g1]; rfl, by rw [cell_of_row _ _ _ _ _ _ g1]; rfl, by rw [cell_of_row _ _ _ _ _ _ g1]; rfl⟩, (below1 w _).trans (Below.mono hb (Nat.le_succ _))⟩)
  have HMD := hid (fun (W : World) (hI : Inn w (.cells #[.string nm, .int .i64 ar, .slice ac xs.length cc] 25) W) => made_store v es W (h.below (HA.out W hI).2))
  have HST := hid (fun (W : World) (a : Option Addr) (c : Nat) (hR : Rf W 4 (.slice a (mdG (es.take 400)).length c) (mdG (es.take 400)).length ((mdG (es.take 400)).flatMap ecs)) => store_vl (.slice a (mdG (es.take 400)).length c) (mdG (es.take 400)) W hR (by omega) hT)
  have HRUN := hid (fun (W : World) (p : Nat) (hI : Inn w (.cells #[.string nm, .int .i64 ar, .slice ac xs.length cc] 25) W) (hV : VL W p (mdG (es.take 400))) => run_ef p (.slice aa al.length ca) (.slice ac xs.length cc) nm ar xs al W dig _ (hc.below (HA.out W hI).2) (ha.below (HA.out W hI).2) hl hla hi hv hV (hT.lok hTi) (hd.below (HA.out W hI).2) _ hf)
  have HKn := hid (fun W => known_any W)
  have HEE := hid hE
  generalize (mdG (es.take 400)).length = TN at *
  have l1 : ¬ (1000 : Int) < (xs.length : Int) := by omega
  have l2 : ¬ (1000 : Int) < (al.length : Int) := by omega
  have z1 : decide ((64 : Int) < (td.length : Int)) = false := by have := hE.tdl; dsimp only at this; rw [decide_eq_false_iff_not]; omega
  have z1n : td.length ≤ 64 := hE.tdl
  have z2 : decide ((64 : Int) < (wl.length : Int)) = false := by have := hE.wrl; dsimp only at this; rw [decide_eq_false_iff_not]; omega
  have z2n : wl.length ≤ 64 := hE.wrl
  have z3 : decide ((64 : Int) < (lk.length : Int)) = false := by have := hE.lkl; dsimp only at this; rw [decide_eq_false_iff_not]; omega
  have z3n : lk.length ≤ 64 := hE.lkl
  dsimp only at HRUN
  clear h hc ha hl hla hie hi hv hd hf hT hTl hTi hE
  go_enter Tryz.func7, Tryz.ntmps7
  go_upto_region 3 with fail
  have H0 := hid (show Inn w (.cells #[.string nm, .int .i64 ar, .slice ac xs.length cc] 25) (w.alloc (.cells #[.string nm, .int .i64 ar, .slice ac xs.length cc] 25)).drew from (Below.refl _ _).drew)
  have H01 := hid (show Inn w (.cells #[.string nm, .int .i64 ar, .slice ac xs.length cc] 25) ((w.alloc (.cells #[.string nm, .int .i64 ar, .slice ac xs.length cc] 25)).alloc (.cells #[.int .i64 0, .int .i64 0, .slice none 0 0, .slice none 0 0, .slice none 0 0] 43)).drew from Below.drew ((show Inn w (.cells #[.string nm, .int .i64 ar, .slice ac xs.length cc] 25) (w.alloc (.cells #[.string nm, .int .i64 ar, .slice ac xs.length cc] 25)) from Below.refl _ _).al (.cells #[.int .i64 0, .int .i64 0, .slice none 0 0, .slice none 0 0, .slice none 0 0] 43)))
  have HM0 := hid (HMD.out _ H0.out)
  have HM1 := hid (HMD.out _ H01.out)
  clear HMD
  go_cut [7] from 21 (fun v7 wc => ∃ (r : Nat) (t1 t2 t3 : Option Addr) (k1 k2 k3 : Nat), v7 = .pointer (some ⟨r, 0, none⟩) ∧ Hid (EfB wc r 1 0 td wl lk t1 t2 t3 k1 k2 k3 ∧ Below w.heap.size w wc ∧ Inn w (.cells #[.string nm, .int .i64 ar, .slice ac xs.length cc] 25) wc))
  case first =>
    go_region_held3 (fun W => W.cell? ⟨w.heap.size, 0, none⟩ = some (.string nm) ∧ W.cell? ⟨w.heap.size, 1, none⟩ = some (.int .i64 ar) ∧ W.cell? ⟨w.heap.size, 2, none⟩ = some (.slice ac xs.length cc))
      (first | with_reducible exact HA9.out | with_reducible exact (HA.out _ H9.out).1 | with_reducible exact (HA.out _ (H9.out.al _)).1 | with_reducible exact (HA.out _ H6.out).1 | with_reducible exact (HA.out _ (H6.out.al _)).1 | with_reducible exact (HA.out _ H5.out).1 | with_reducible exact (HA.out _ (H5.out.al _)).1 | with_reducible exact (HA.out _ H0.out).1 | with_reducible exact (HA.out _ H01.out).1)
      (first
      | (go_at_call 9
         with_reducible refine HM0.out.mono ?_
         rintro e w5 ⟨a4, c4, rfl, hR5, hb5⟩
         have H5 := hid (H0.out.go hb5)
         have HP5 := hid hR5
         clear hR5 hb5 HM0 HM1)
      | (go_at_call 9
         with_reducible refine HM1.out.mono ?_
         rintro e w5 ⟨a4, c4, rfl, hR5, hb5⟩
         have H5 := hid (H01.out.go hb5)
         have HP5 := hid hR5
         have HX := hid (show Box w5 w (w.heap.size + 1) from Box.mk1 hb5)
         clear hR5 hb5 HM0 HM1)
      | (go_at_call 10
         with_reducible refine (HST.out w5 a4 c4 HP5.out).mono ?_
         rintro e w6 ⟨p, rfl, hv6, hb6⟩
         have H6 := hid (H5.out.go hb6)
         have HP6 := hid hv6
         first | (replace HX := hid (HX.out.go hb6)) | skip
         have HR1 := hid (HRUN.out w6 p H6.out hv6)
         have HR2 := hid (HRUN.out (w6.alloc (.cells #[.int .i64 0, .int .i64 0, .slice none 0 0, .slice none 0 0, .slice none 0 0] 43)) p (H6.out.al (.cells #[.int .i64 0, .int .i64 0, .slice none 0 0, .slice none 0 0, .slice none 0 0] 43)) (hv6.below (below1 w6 (.cells #[.int .i64 0, .int .i64 0, .slice none 0 0, .slice none 0 0, .slice none 0 0] 43))))
         clear hv6 hb6 HST HRUN)
      | (go_at_call 10
         with_reducible refine (HST.out (w5.alloc (.cells #[.int .i64 0, .int .i64 0, .slice none 0 0, .slice none 0 0, .slice none 0 0] 43)) a4 c4 (HP5.out.below (below1 w5 (.cells #[.int .i64 0, .int .i64 0, .slice none 0 0, .slice none 0 0, .slice none 0 0] 43)))).mono ?_
         rintro e w6 ⟨p, rfl, hv6, hb6⟩
         have H6 := hid ((H5.out.al (.cells #[.int .i64 0, .int .i64 0, .slice none 0 0, .slice none 0 0, .slice none 0 0] 43)).go hb6)
         have HP6 := hid hv6
         have HX := hid (show Box w6 w w5.heap.size from Box.mk2 H5.out hb6)
         have HR1 := hid (HRUN.out w6 p H6.out hv6)
         have HR2 := hid (HRUN.out (w6.alloc (.cells #[.int .i64 0, .int .i64 0, .slice none 0 0, .slice none 0 0, .slice none 0 0] 43)) p (H6.out.al (.cells #[.int .i64 0, .int .i64 0, .slice none 0 0, .slice none 0 0, .slice none 0 0] 43)) (hv6.below (below1 w6 (.cells #[.int .i64 0, .int .i64 0, .slice none 0 0, .slice none 0 0, .slice none 0 0] 43))))
         clear hv6 hb6 HST HRUN)
      | (go_at_call 12
         with_reducible refine HR1.out.mono ?_
         rintro e w9 ⟨t1, k1, t2, k2, t3, k3, rfl, hE9, hb9⟩
         have H9 := hid (H6.out.go hb9)
         first | (replace HX := hid (HX.out.go hb9); have HA9 := hid (HA.out _ (H9.out.sets HX.out.2.2 (.int .i64 1) (.int .i64 0) (.slice t1 td.length k1) (.slice t2 wl.length k2) (.slice t3 lk.length k3))).1; obtain ⟨x0, x1, x2, x3, x4, x5⟩ := cells5f HX.out.1; have hxz := HX.out.2.1) | skip
         have HE9 := hid hE9
         clear hb9 HR1 HR2 hE9)
      | (go_at_call 12
         with_reducible refine HR2.out.mono ?_
         rintro e w9 ⟨t1, k1, t2, k2, t3, k3, rfl, hE9, hb9⟩
         have H9 := hid ((H6.out.al (.cells #[.int .i64 0, .int .i64 0, .slice none 0 0, .slice none 0 0, .slice none 0 0] 43)).go hb9)
         have HX := hid (show Box w9 w w6.heap.size from Box.mk2 H6.out hb9)
         have HA9 := hid (HA.out _ (H9.out.sets HX.out.2.2 (.int .i64 1) (.int .i64 0) (.slice t1 td.length k1) (.slice t2 wl.length k2) (.slice t3 lk.length k3))).1
         obtain ⟨x0, x1, x2, x3, x4, x5⟩ := cells5f HX.out.1
         have hxz := HX.out.2.1
         have HE9 := hid hE9
         clear hb9 HR1 HR2 hE9))
    all_goals
      first
      | (refine cut43 HX.out.1 ?_
         intro W hW hK
         have hbW : Below w.heap.size w W := (HA.out _ H9.out).2.trans (hK.below (HA.out _ H9.out).2.size (fun k hk e => by have h1 := HX.out.2.2; omega))
         have hIW : Inn w (.cells #[.string nm, .int .i64 ar, .slice ac xs.length cc] 25) W := Below.trans H9.out (hK.below (Inn.sz H9.out) (fun k hk e => by have h1 := HX.out.2.2; omega))
         have hEB := HE9.out.into HX.out.1 hW hK
         clear hW hK)
      | (refine cutG (fun W => EfB W w9.heap.size 1 0 td wl lk t1 t2 t3 k1 k2 k3 ∧ Below w.heap.size w W ∧ Inn w (.cells #[.string nm, .int .i64 ar, .slice ac xs.length cc] 25) W) ⟨HE9.out.new, below_on (HA.out _ H9.out).2 (below1 w9 _), H9.out.al _⟩ ?_
         rintro W ⟨hEB, hbW, hIW⟩)
      go_wp2_with fail
      go_meet
      case rel => exact ⟨_, _, _, _, _, _, _, rfl, hid ⟨hEB, hbW, hIW⟩⟩
  case rest =>
    obtain ⟨r, t1, t2, t3, k1, k2, k3, rfl, HC⟩ := hcut
    rename World => W
    obtain ⟨hEB, hbW, hIW⟩ := HC.out
    clear HC HM0 HM1 HST HRUN H0 H01
    obtain ⟨r0, r1, r2, r3, r4, r5⟩ := cells5f hEB.bx
    have hrz := hp_lt hEB.bx
    obtain ⟨⟨-, -, p2⟩, -⟩ := HA.out W hIW
    have hpz := World.block_lt_of_cell? _ _ p2
    dsimp only at hpz
    have HW := hid (And.intro hbW hEB)
    clear hbW hEB hIW
    go_upto_region 11 with fail
    go_wp2_with fail
    have HI0 := hid (show LI W r 1 0 td wl lk t1 t2 t3 k1 k2 k3 (W.alloc (.cells #[.int .i64 1, .int .i64 0, .slice t1 td.length k1] 40)) from ⟨below1 W _, hp_new W _, HW.out.2.below (below1 W _)⟩)
    as_aux_lemma =>
    go_loopw [9] (fun ix wr => ∃ k : Nat, k ≤ wl.length ∧ ix = .int .i64 k ∧ Hid (LI W r 1 0 td wl lk t1 t2 t3 k1 k2 k3 wr)) (fun ix _ => wl.length - (intOf ix).toNat)
    case atStart => exact ⟨0, Nat.zero_le _, by go_num, HI0⟩
    case round =>
      obtain ⟨k, hk, rfl, HL⟩ := hrel
      obtain ⟨r0, r1, r2, r3, r4, r5⟩ := cells5f HL.out.ef.bx
      have hrz := hp_lt HL.out.ef.bx
      by_cases hlt : k < wl.length
      · have i1 : (k : Int) < (wl.length : Int) := by omega
        obtain ⟨b, off, e2, hcap, c0, c1, c2, c3⟩ := HL.out.ef.writes k hlt
        subst e2
        have hky := HEE.out.wrv wl[k] (List.getElem_mem hlt)
        obtain ⟨y, hy⟩ : ∃ y, y = wl[k] := ⟨_, rfl⟩
        rw [← hy] at c0 c1 c2 c3 hky
        have HC1 := hid (fun W => riskey_any y.1 W)
        rw [hky.1] at HC1
        have HC2 := hid (fun W => rcheck_any y.2.k y.2.i y.2.t W)
        rw [hky.2.1] at HC2
        have hbz := World.block_lt_of_cell? _ _ c0
        dsimp only at hbz
        by_cases h0 : k = 0
        · have kz : decide ((0 : Int) < (k : Int)) = false := by simp; omega
          have kz2 : decide (0 < k) = false := by simp; omega
          have HK := hid (And.intro h0 hk)
          clear hky hy h0
          obtain ⟨yk, ykk, yki, ykt⟩ := y
          dsimp only at c0 c1 c2 c3
          have HSW := hid (show ∀ wx : World, Below wr.heap.size wr wx → wx.cell? ⟨r, 3, none⟩ = some (.slice (some ⟨b, off, none⟩) wl.length k2) ∧ wx.cell? ⟨b, off + k * 4, none⟩ = some (.string yk) ∧ wx.cell? ⟨b, off + k * 4 + 1, none⟩ = some (.int .i64 ykk) ∧ wx.cell? ⟨b, off + k * 4 + 1 + 1, none⟩ = some (.int .i64 yki) ∧ wx.cell? ⟨b, off + k * 4 + 1 + 2, none⟩ = some (.string ykt) from fun wx hb => ⟨(hb.cell hrz).trans r3, (hb.cell hbz).trans c0, (hb.cell hbz).trans c1, (hb.cell hbz).trans c2, (hb.cell hbz).trans c3⟩)
          go_upto_region 14 with fail
          refine wp_region_held_drew (S := (fun wx => wx.cell? ⟨r, 3, none⟩ = some (.slice (some ⟨b, off, none⟩) wl.length k2) ∧ wx.cell? ⟨b, off + k * 4, none⟩ = some (.string yk) ∧ wx.cell? ⟨b, off + k * 4 + 1, none⟩ = some (.int .i64 ykk) ∧ wx.cell? ⟨b, off + k * 4 + 1 + 1, none⟩ = some (.int .i64 yki) ∧ wx.cell? ⟨b, off + k * 4 + 1 + 2, none⟩ = some (.string ykt))) (by kernel_rfl) (HSW.out _ ((Below.refl _ _).drew)) (fun hHeld => ?_)
          refine' wpAnyH_take (i := 0) (oi := { dst := some 130, op := Op.fieldAddr 43 (Operand.tmp 7) 1, type := 0, pos := "outright.go:61", after := #[], guard := none }) rfl (by kernel_rfl) (by kernel_rfl) (by kernel_rfl) (fun _ _ _ h => h) (Or.inl ⟨by rfl, ?hy1⟩) (by assumption) ?rest1
          case hy1 => (intro w hSw; (try dsimp only at hSw); go_simp; (try with_reducible rfl))
          (try simp only [Act.put, List.setIfInBounds_toArray, List.set_cons_zero, List.set_cons_succ])
          refine' wpAnyH_take (i := 1) (oi := { dst := some 131, op := Op.load 22 (Operand.tmp 130), type := 22, pos := "outright.go:61", after := #[{ on := 0, ground := Ground.data }], guard := none }) rfl (by kernel_rfl) (by kernel_rfl) (by kernel_rfl) (fun _ _ _ h => h) (Or.inl ⟨by rfl, ?hy2⟩) (by assumption) ?rest2
          case hy2 => (intro w hSw; (try dsimp only at hSw); go_simp; (try with_reducible rfl))
          (try simp only [Act.put, List.setIfInBounds_toArray, List.set_cons_zero, List.set_cons_succ])
          refine' wpAnyH_take (i := 2) (oi := { dst := some 132, op := Op.move (Operand.tmp 9), type := 3, pos := "outright.go:61", after := #[], guard := none }) rfl (by kernel_rfl) (by kernel_rfl) (by kernel_rfl) (fun _ _ _ h => h) (Or.inl ⟨by rfl, ?hy3⟩) (by assumption) ?rest3
          case hy3 => (intro w hSw; (try dsimp only at hSw); go_simp; (try with_reducible rfl))
          (try simp only [Act.put, List.setIfInBounds_toArray, List.set_cons_zero, List.set_cons_succ])
          refine' wpAnyH_take (i := 3) (oi := { dst := some 133, op := Op.indexAddr 22 (Operand.tmp 131) (Operand.tmp 132), type := 0, pos := "outright.go:61", after := #[{ on := 1, ground := Ground.data }, { on := 2, ground := Ground.data }], guard := none }) rfl (by kernel_rfl) (by kernel_rfl) (by kernel_rfl) (fun _ _ _ h => h) (Or.inl ⟨by rfl, ?hy4⟩) (by assumption) ?rest4
          case hy4 => (intro w hSw; (try dsimp only at hSw); go_simp; (try with_reducible rfl))
          (try simp only [Act.put, List.setIfInBounds_toArray, List.set_cons_zero, List.set_cons_succ])
          refine' wpAnyH_take (i := 4) (oi := { dst := some 134, op := Op.fieldAddr 54 (Operand.tmp 133) 0, type := 0, pos := "outright.go:61", after := #[{ on := 3, ground := Ground.data }], guard := none }) rfl (by kernel_rfl) (by kernel_rfl) (by kernel_rfl) (fun _ _ _ h => h) (Or.inl ⟨by rfl, ?hy5⟩) (by assumption) ?rest5
          case hy5 => (intro w hSw; (try dsimp only at hSw); go_simp; (try with_reducible rfl))
          (try simp only [Act.put, List.setIfInBounds_toArray, List.set_cons_zero, List.set_cons_succ])
          refine' wpAnyH_take (i := 5) (oi := { dst := some 135, op := Op.load 9 (Operand.tmp 134), type := 9, pos := "outright.go:61", after := #[{ on := 4, ground := Ground.data }], guard := none }) rfl (by kernel_rfl) (by kernel_rfl) (by kernel_rfl) (fun _ _ _ h => h) (Or.inl ⟨by rfl, ?hy6⟩) (by assumption) ?rest6
          case hy6 => (intro w hSw; (try dsimp only at hSw); go_simp; (try with_reducible rfl))
          (try simp only [Act.put, List.setIfInBounds_toArray, List.set_cons_zero, List.set_cons_succ])
          refine wpAnyH_ready (rs := [6]) (by kernel_rfl) (by simp) ?_
          refine AllReadyH.cons (o := { dst := some 136, op := Op.call { callee := Callee.value (Operand.func 19), args := #[Operand.tmp 135], argTypes := #[9] }, type := 4, pos := "outright.go:61", after := #[{ on := 5, ground := Ground.data }], guard := none }) rfl (fun K hK => ?_) AllReadyH.nil
          go_simp
          go_at_call 19
          refine (HC1.out _).mono ?_
          rintro e w' ⟨rfl, e1⟩
          rw [e1]
          clear e1 w'
          refine hK.out _ _ (HSW.out _ ((Below.refl _ _).drew)) (fun hHeld => ?_)
          clear hK K
          (try simp only [Act.put, List.setIfInBounds_toArray, List.set_cons_zero, List.set_cons_succ])
          refine' wpAnyH_take (i := 7) (oi := { dst := some 137, op := Op.unOp UnOp.not 4 (Operand.tmp 136), type := 4, pos := "outright.go:61", after := #[{ on := 6, ground := Ground.data }], guard := none }) rfl (by kernel_rfl) (by kernel_rfl) (by kernel_rfl) (fun _ _ _ h => h) (Or.inl ⟨by rfl, ?hy7⟩) (by assumption) ?rest7
          case hy7 => (intro w hSw; (try dsimp only at hSw); go_simp; (try with_reducible rfl))
          (try simp only [Act.put, List.setIfInBounds_toArray, List.set_cons_zero, List.set_cons_succ])
          refine' wpAnyH_take (i := 8) (oi := { dst := some 138, op := Op.move (Operand.tmp 137), type := 4, pos := "outright.go:61", after := #[{ on := 7, ground := Ground.data }, { on := 6, ground := Ground.chain }], guard := none }) rfl (by kernel_rfl) (by kernel_rfl) (by kernel_rfl) (fun _ _ _ h => h) (Or.inl ⟨by rfl, ?hy8⟩) (by assumption) ?rest8
          case hy8 => (intro w hSw; (try dsimp only at hSw); go_simp; (try with_reducible rfl))
          (try simp only [Act.put, List.setIfInBounds_toArray, List.set_cons_zero, List.set_cons_succ])
          refine' wpAnyH_take (i := 9) (oi := { dst := some 139, op := Op.fieldAddr 43 (Operand.tmp 7) 1, type := 0, pos := "outright.go:61", after := #[{ on := 8, ground := Ground.guard }], guard := some (8, false) }) rfl (by kernel_rfl) (by kernel_rfl) (by kernel_rfl) (fun _ _ _ h => h) (Or.inl ⟨by rfl, ?hy9⟩) (by assumption) ?rest9
          case hy9 => (intro w hSw; (try dsimp only at hSw); go_simp; (try with_reducible rfl))
          (try simp only [Act.put, List.setIfInBounds_toArray, List.set_cons_zero, List.set_cons_succ])
          refine' wpAnyH_take (i := 10) (oi := { dst := some 140, op := Op.load 22 (Operand.tmp 139), type := 22, pos := "outright.go:61", after := #[{ on := 9, ground := Ground.data }, { on := 8, ground := Ground.guard }], guard := some (8, false) }) rfl (by kernel_rfl) (by kernel_rfl) (by kernel_rfl) (fun _ _ _ h => h) (Or.inl ⟨by rfl, ?hy10⟩) (by assumption) ?rest10
          case hy10 => (intro w hSw; (try dsimp only at hSw); go_simp; (try with_reducible rfl))
          (try simp only [Act.put, List.setIfInBounds_toArray, List.set_cons_zero, List.set_cons_succ])
          refine' wpAnyH_take (i := 11) (oi := { dst := some 141, op := Op.move (Operand.tmp 9), type := 3, pos := "outright.go:61", after := #[{ on := 8, ground := Ground.guard }], guard := some (8, false) }) rfl (by kernel_rfl) (by kernel_rfl) (by kernel_rfl) (fun _ _ _ h => h) (Or.inl ⟨by rfl, ?hy11⟩) (by assumption) ?rest11
          case hy11 => (intro w hSw; (try dsimp only at hSw); go_simp; (try with_reducible rfl))
          (try simp only [Act.put, List.setIfInBounds_toArray, List.set_cons_zero, List.set_cons_succ])
          refine' wpAnyH_take (i := 12) (oi := { dst := some 142, op := Op.indexAddr 22 (Operand.tmp 140) (Operand.tmp 141), type := 0, pos := "outright.go:61", after := #[{ on := 10, ground := Ground.data }, { on := 11, ground := Ground.data }, { on := 8, ground := Ground.guard }], guard := some (8, false) }) rfl (by kernel_rfl) (by kernel_rfl) (by kernel_rfl) (fun _ _ _ h => h) (Or.inl ⟨by rfl, ?hy12⟩) (by assumption) ?rest12
          case hy12 => (intro w hSw; (try dsimp only at hSw); go_simp; (try with_reducible rfl))
          (try simp only [Act.put, List.setIfInBounds_toArray, List.set_cons_zero, List.set_cons_succ])
          refine' wpAnyH_take (i := 13) (oi := { dst := some 143, op := Op.fieldAddr 54 (Operand.tmp 142) 1, type := 0, pos := "outright.go:61", after := #[{ on := 12, ground := Ground.data }, { on := 8, ground := Ground.guard }], guard := some (8, false) }) rfl (by kernel_rfl) (by kernel_rfl) (by kernel_rfl) (fun _ _ _ h => h) (Or.inl ⟨by rfl, ?hy13⟩) (by assumption) ?rest13
          case hy13 => (intro w hSw; (try dsimp only at hSw); go_simp; (try with_reducible rfl))
          (try simp only [Act.put, List.setIfInBounds_toArray, List.set_cons_zero, List.set_cons_succ])
          refine' wpAnyH_take (i := 14) (oi := { dst := some 144, op := Op.load 28 (Operand.tmp 143), type := 28, pos := "outright.go:61", after := #[{ on := 13, ground := Ground.data }, { on := 8, ground := Ground.guard }], guard := some (8, false) }) rfl (by kernel_rfl) (by kernel_rfl) (by kernel_rfl) (fun _ _ _ h => h) (Or.inl ⟨by rfl, ?hy14⟩) (by assumption) ?rest14
          case hy14 => (intro w hSw; (try dsimp only at hSw); go_simp; (try with_reducible rfl))
          (try simp only [Act.put, List.setIfInBounds_toArray, List.set_cons_zero, List.set_cons_succ])
          refine wpAnyH_ready (rs := [15]) (by kernel_rfl) (by simp) ?_
          refine AllReadyH.cons (o := { dst := some 145, op := Op.call { callee := Callee.value (Operand.func 20), args := #[Operand.tmp 144], argTypes := #[28] }, type := 3, pos := "outright.go:61", after := #[{ on := 14, ground := Ground.data }, { on := 8, ground := Ground.chain }, { on := 8, ground := Ground.guard }], guard := some (8, false) }) rfl (fun K hK => ?_) AllReadyH.nil
          go_simp
          go_at_call 20
          refine (HC2.out _).mono ?_
          rintro e w2 ⟨rfl, hb2⟩
          have H2 := hid (show Below wr.heap.size wr w2 from below_on ((Below.refl _ _).drew) hb2)
          clear hb2
          refine hK.out _ _ (HSW.out _ H2.out) (fun hHeld => ?_)
          clear hK K
          (try simp only [Act.put, List.setIfInBounds_toArray, List.set_cons_zero, List.set_cons_succ])
          refine' wpAnyH_take (i := 16) (oi := { dst := some 146, op := Op.binOp BinOp.neq 3 (Operand.tmp 145) (Operand.const (Value.int IntKind.i64 0)) 3, type := 4, pos := "outright.go:61", after := #[{ on := 15, ground := Ground.data }, { on := 8, ground := Ground.guard }], guard := some (8, false) }) rfl (by kernel_rfl) (by kernel_rfl) (by kernel_rfl) (fun _ _ _ h => h) (Or.inl ⟨by rfl, ?hy15⟩) (by assumption) ?rest15
          case hy15 => (intro w hSw; (try dsimp only at hSw); go_simp; (try with_reducible rfl))
          (try simp only [Act.put, List.setIfInBounds_toArray, List.set_cons_zero, List.set_cons_succ])
          refine' wpAnyH_take (i := 17) (oi := { dst := some 147, op := Op.pick (Operand.tmp 138) (Operand.const (Value.bool true)) (Operand.tmp 146), type := 4, pos := "outright.go:61", after := #[{ on := 8, ground := Ground.data }, { on := 16, ground := Ground.data }], guard := none }) rfl (by kernel_rfl) (by kernel_rfl) (by kernel_rfl) (fun _ _ _ h => h) (Or.inl ⟨by rfl, ?hy16⟩) (by assumption) ?rest16
          case hy16 => (intro w hSw; (try dsimp only at hSw); go_simp; (try with_reducible rfl))
          (try simp only [Act.put, List.setIfInBounds_toArray, List.set_cons_zero, List.set_cons_succ])
          refine' wpAnyH_take (i := 18) (oi := { dst := some 148, op := Op.move (Operand.tmp 147), type := 4, pos := "outright.go:61", after := #[{ on := 17, ground := Ground.data }, { on := 15, ground := Ground.chain }], guard := none }) rfl (by kernel_rfl) (by kernel_rfl) (by kernel_rfl) (fun _ _ _ h => h) (Or.inl ⟨by rfl, ?hy17⟩) (by assumption) ?rest17
          case hy17 => (intro w hSw; (try dsimp only at hSw); go_simp; (try with_reducible rfl))
          (try simp only [Act.put, List.setIfInBounds_toArray, List.set_cons_zero, List.set_cons_succ])
          refine' wpAnyH_take (i := 19) (oi := { dst := some 149, op := Op.move (Operand.tmp 9), type := 3, pos := "outright.go:61", after := #[{ on := 18, ground := Ground.guard }], guard := some (18, false) }) rfl (by kernel_rfl) (by kernel_rfl) (by kernel_rfl) (fun _ _ _ h => h) (Or.inl ⟨by rfl, ?hy18⟩) (by assumption) ?rest18
          case hy18 => (intro w hSw; (try dsimp only at hSw); go_simp; (try with_reducible rfl))
          (try simp only [Act.put, List.setIfInBounds_toArray, List.set_cons_zero, List.set_cons_succ])
          refine' wpAnyH_take (i := 20) (oi := { dst := some 150, op := Op.binOp BinOp.gtr 3 (Operand.tmp 149) (Operand.const (Value.int IntKind.i64 0)) 3, type := 4, pos := "outright.go:61", after := #[{ on := 19, ground := Ground.data }, { on := 18, ground := Ground.guard }], guard := some (18, false) }) rfl (by kernel_rfl) (by kernel_rfl) (by kernel_rfl) (fun _ _ _ h => h) (Or.inl ⟨by rfl, ?hy19⟩) (by assumption) ?rest19
          case hy19 => (intro w hSw; (try dsimp only at hSw); go_simp; (try with_reducible rfl))
          (try simp only [Act.put, List.setIfInBounds_toArray, List.set_cons_zero, List.set_cons_succ])
          refine' wpAnyH_take (i := 21) (oi := { dst := some 151, op := Op.move (Operand.tmp 150), type := 4, pos := "outright.go:61", after := #[{ on := 20, ground := Ground.data }, { on := 18, ground := Ground.chain }, { on := 18, ground := Ground.guard }], guard := some (18, false) }) rfl (by kernel_rfl) (by kernel_rfl) (by kernel_rfl) (fun _ _ _ h => h) (Or.inl ⟨by rfl, ?hy20⟩) (by assumption) ?rest20
          case hy20 => (intro w hSw; (try dsimp only at hSw); go_simp; (try with_reducible rfl))
          (try simp only [Act.put, List.setIfInBounds_toArray, List.set_cons_zero, List.set_cons_succ])
          refine wpAnyH_take (i := 22) (oi := { dst := some 152, op := Op.fieldAddr 43 (Operand.tmp 7) 1, type := 0, pos := "outright.go:61", after := #[{ on := 21, ground := Ground.guard }], guard := some (21, true) }) rfl (by kernel_rfl) (by kernel_rfl) (by kernel_rfl) (fun _ _ _ h => h) (Or.inr ⟨by rfl, rfl⟩) (by assumption) ?_
          (try simp only [Act.put, List.setIfInBounds_toArray, List.set_cons_zero, List.set_cons_succ])
          refine wpAnyH_take (i := 23) (oi := { dst := some 153, op := Op.load 22 (Operand.tmp 152), type := 22, pos := "outright.go:61", after := #[{ on := 22, ground := Ground.data }, { on := 21, ground := Ground.guard }], guard := some (21, true) }) rfl (by kernel_rfl) (by kernel_rfl) (by kernel_rfl) (fun _ _ _ h => h) (Or.inr ⟨by rfl, rfl⟩) (by assumption) ?_
          (try simp only [Act.put, List.setIfInBounds_toArray, List.set_cons_zero, List.set_cons_succ])
          refine wpAnyH_take (i := 24) (oi := { dst := some 154, op := Op.move (Operand.tmp 9), type := 3, pos := "outright.go:61", after := #[{ on := 21, ground := Ground.guard }], guard := some (21, true) }) rfl (by kernel_rfl) (by kernel_rfl) (by kernel_rfl) (fun _ _ _ h => h) (Or.inr ⟨by rfl, rfl⟩) (by assumption) ?_
          (try simp only [Act.put, List.setIfInBounds_toArray, List.set_cons_zero, List.set_cons_succ])
          refine wpAnyH_take (i := 25) (oi := { dst := some 155, op := Op.indexAddr 22 (Operand.tmp 153) (Operand.tmp 154), type := 0, pos := "outright.go:61", after := #[{ on := 23, ground := Ground.data }, { on := 24, ground := Ground.data }, { on := 21, ground := Ground.guard }], guard := some (21, true) }) rfl (by kernel_rfl) (by kernel_rfl) (by kernel_rfl) (fun _ _ _ h => h) (Or.inr ⟨by rfl, rfl⟩) (by assumption) ?_
          (try simp only [Act.put, List.setIfInBounds_toArray, List.set_cons_zero, List.set_cons_succ])
          refine wpAnyH_take (i := 26) (oi := { dst := some 156, op := Op.fieldAddr 54 (Operand.tmp 155) 0, type := 0, pos := "outright.go:61", after := #[{ on := 25, ground := Ground.data }, { on := 21, ground := Ground.guard }], guard := some (21, true) }) rfl (by kernel_rfl) (by kernel_rfl) (by kernel_rfl) (fun _ _ _ h => h) (Or.inr ⟨by rfl, rfl⟩) (by assumption) ?_
          (try simp only [Act.put, List.setIfInBounds_toArray, List.set_cons_zero, List.set_cons_succ])
          refine wpAnyH_take (i := 27) (oi := { dst := some 157, op := Op.load 9 (Operand.tmp 156), type := 9, pos := "outright.go:61", after := #[{ on := 26, ground := Ground.data }, { on := 21, ground := Ground.guard }], guard := some (21, true) }) rfl (by kernel_rfl) (by kernel_rfl) (by kernel_rfl) (fun _ _ _ h => h) (Or.inr ⟨by rfl, rfl⟩) (by assumption) ?_
          (try simp only [Act.put, List.setIfInBounds_toArray, List.set_cons_zero, List.set_cons_succ])
          refine wpAnyH_take (i := 28) (oi := { dst := some 158, op := Op.fieldAddr 43 (Operand.tmp 7) 1, type := 0, pos := "outright.go:61", after := #[{ on := 21, ground := Ground.guard }], guard := some (21, true) }) rfl (by kernel_rfl) (by kernel_rfl) (by kernel_rfl) (fun _ _ _ h => h) (Or.inr ⟨by rfl, rfl⟩) (by assumption) ?_
          (try simp only [Act.put, List.setIfInBounds_toArray, List.set_cons_zero, List.set_cons_succ])
          refine wpAnyH_take (i := 29) (oi := { dst := some 159, op := Op.load 22 (Operand.tmp 158), type := 22, pos := "outright.go:61", after := #[{ on := 28, ground := Ground.data }, { on := 21, ground := Ground.guard }], guard := some (21, true) }) rfl (by kernel_rfl) (by kernel_rfl) (by kernel_rfl) (fun _ _ _ h => h) (Or.inr ⟨by rfl, rfl⟩) (by assumption) ?_
          (try simp only [Act.put, List.setIfInBounds_toArray, List.set_cons_zero, List.set_cons_succ])
          refine wpAnyH_take (i := 30) (oi := { dst := some 160, op := Op.move (Operand.tmp 9), type := 3, pos := "outright.go:61", after := #[{ on := 21, ground := Ground.guard }], guard := some (21, true) }) rfl (by kernel_rfl) (by kernel_rfl) (by kernel_rfl) (fun _ _ _ h => h) (Or.inr ⟨by rfl, rfl⟩) (by assumption) ?_
          (try simp only [Act.put, List.setIfInBounds_toArray, List.set_cons_zero, List.set_cons_succ])
          refine wpAnyH_take (i := 31) (oi := { dst := some 161, op := Op.binOp BinOp.sub 3 (Operand.tmp 160) (Operand.const (Value.int IntKind.i64 1)) 3, type := 3, pos := "outright.go:61", after := #[{ on := 30, ground := Ground.data }, { on := 21, ground := Ground.guard }], guard := some (21, true) }) rfl (by kernel_rfl) (by kernel_rfl) (by kernel_rfl) (fun _ _ _ h => h) (Or.inr ⟨by rfl, rfl⟩) (by assumption) ?_
          (try simp only [Act.put, List.setIfInBounds_toArray, List.set_cons_zero, List.set_cons_succ])
          refine wpAnyH_take (i := 32) (oi := { dst := some 162, op := Op.indexAddr 22 (Operand.tmp 159) (Operand.tmp 161), type := 0, pos := "outright.go:61", after := #[{ on := 29, ground := Ground.data }, { on := 31, ground := Ground.data }, { on := 21, ground := Ground.guard }], guard := some (21, true) }) rfl (by kernel_rfl) (by kernel_rfl) (by kernel_rfl) (fun _ _ _ h => h) (Or.inr ⟨by rfl, rfl⟩) (by assumption) ?_
          (try simp only [Act.put, List.setIfInBounds_toArray, List.set_cons_zero, List.set_cons_succ])
          refine wpAnyH_take (i := 33) (oi := { dst := some 163, op := Op.fieldAddr 54 (Operand.tmp 162) 0, type := 0, pos := "outright.go:61", after := #[{ on := 32, ground := Ground.data }, { on := 21, ground := Ground.guard }], guard := some (21, true) }) rfl (by kernel_rfl) (by kernel_rfl) (by kernel_rfl) (fun _ _ _ h => h) (Or.inr ⟨by rfl, rfl⟩) (by assumption) ?_
          (try simp only [Act.put, List.setIfInBounds_toArray, List.set_cons_zero, List.set_cons_succ])
          refine wpAnyH_take (i := 34) (oi := { dst := some 164, op := Op.load 9 (Operand.tmp 163), type := 9, pos := "outright.go:61", after := #[{ on := 33, ground := Ground.data }, { on := 21, ground := Ground.guard }], guard := some (21, true) }) rfl (by kernel_rfl) (by kernel_rfl) (by kernel_rfl) (fun _ _ _ h => h) (Or.inr ⟨by rfl, rfl⟩) (by assumption) ?_
          (try simp only [Act.put, List.setIfInBounds_toArray, List.set_cons_zero, List.set_cons_succ])
          refine wpAnyH_take (i := 35) (oi := { dst := some 165, op := Op.binOp BinOp.leq 9 (Operand.tmp 157) (Operand.tmp 164) 9, type := 4, pos := "outright.go:61", after := #[{ on := 27, ground := Ground.data }, { on := 34, ground := Ground.data }, { on := 21, ground := Ground.guard }], guard := some (21, true) }) rfl (by kernel_rfl) (by kernel_rfl) (by kernel_rfl) (fun _ _ _ h => h) (Or.inr ⟨by rfl, rfl⟩) (by assumption) ?_
          (try simp only [Act.put, List.setIfInBounds_toArray, List.set_cons_zero, List.set_cons_succ])
          refine' wpAnyH_take (i := 36) (oi := { dst := some 166, op := Op.pick (Operand.tmp 151) (Operand.tmp 165) (Operand.const (Value.bool false)), type := 4, pos := "outright.go:61", after := #[{ on := 21, ground := Ground.data }, { on := 35, ground := Ground.data }, { on := 18, ground := Ground.guard }], guard := some (18, false) }) rfl (by kernel_rfl) (by kernel_rfl) (by kernel_rfl) (fun _ _ _ h => h) (Or.inl ⟨by rfl, ?hy21⟩) (by assumption) ?rest21
          case hy21 => (intro w hSw; (try dsimp only at hSw); go_simp; (try with_reducible rfl))
          (try simp only [Act.put, List.setIfInBounds_toArray, List.set_cons_zero, List.set_cons_succ])
          refine' wpAnyH_take (i := 37) (oi := { dst := some 167, op := Op.pick (Operand.tmp 148) (Operand.const (Value.bool true)) (Operand.tmp 166), type := 4, pos := "outright.go:61", after := #[{ on := 18, ground := Ground.data }, { on := 36, ground := Ground.data }], guard := none }) rfl (by kernel_rfl) (by kernel_rfl) (by kernel_rfl) (fun _ _ _ h => h) (Or.inl ⟨by rfl, ?hy22⟩) (by assumption) ?rest22
          case hy22 => (intro w hSw; (try dsimp only at hSw); go_simp; (try with_reducible rfl))
          (try simp only [Act.put, List.setIfInBounds_toArray, List.set_cons_zero, List.set_cons_succ])
          refine wpAnyH_done (by kernel_rfl) ?_ _
          clear hHeld
          go_wp2_with fail
          go_roundw
          case rel => exact ⟨k + 1, by omega, by go_num, hid (HL.out.go H2.out)⟩
          case measure => simp [intOf]; omega
        · obtain ⟨j, hj⟩ : ∃ j, j = k - 1 := ⟨_, rfl⟩
          have hjl : j < wl.length := by omega
          obtain ⟨b', off', e2, -, d0, -⟩ := HL.out.ef.writes j hjl
          injection e2 with e2
          injection e2 with e3 e4 _
          subst e3 e4
          have has := (List.pairwise_iff_getElem.1 HEE.out.wra) j k hjl hlt (by omega)
          obtain ⟨z, hz⟩ : ∃ z, z = wl[j] := ⟨_, rfl⟩
          rw [← hy, ← hz] at has
          rw [← hz] at d0
          have q1 : Op.bytesLess y.1.toList z.1.toList = false := V.kl_asymm has
          have q2 : (y.1.toList == z.1.toList) = false := V.keq_false (fun e => V.kl_ne has e.symm)
          have kp : decide ((0 : Int) < (k : Int)) = true := by simp; omega
          have kp2 : decide (0 < k) = true := by simp; omega
          have hwj : IntKind.i64.wrap ((k : Int) - 1) = (j : Int) := by have := HEE.out.wrl; dsimp only at this; rw [IntKind.wrap_i64]; omega
          have hj0 : ¬ (j : Int) < 0 := by omega
          have hj1 : (j : Int) < (wl.length : Int) := by omega
          clear hky hy hz has
          obtain ⟨yk, ykk, yki, ykt⟩ := y
          obtain ⟨zk, zv⟩ := z
          dsimp only at c0 c1 c2 c3 d0 q1 q2
          have HSW := hid (show ∀ wx : World, Below wr.heap.size wr wx → wx.cell? ⟨r, 3, none⟩ = some (.slice (some ⟨b, off, none⟩) wl.length k2) ∧ wx.cell? ⟨b, off + k * 4, none⟩ = some (.string yk) ∧ wx.cell? ⟨b, off + k * 4 + 1, none⟩ = some (.int .i64 ykk) ∧ wx.cell? ⟨b, off + k * 4 + 1 + 1, none⟩ = some (.int .i64 yki) ∧ wx.cell? ⟨b, off + k * 4 + 1 + 2, none⟩ = some (.string ykt) ∧ wx.cell? ⟨b, off + j * 4, none⟩ = some (.string zk) from fun wx hb => ⟨(hb.cell hrz).trans r3, (hb.cell hbz).trans c0, (hb.cell hbz).trans c1, (hb.cell hbz).trans c2, (hb.cell hbz).trans c3, (hb.cell hbz).trans d0⟩)
          have HK := hid (And.intro hj (And.intro h0 hk))
          clear hj h0
          go_upto_region 14 with fail
          go_region_held3 (fun wx => wx.cell? ⟨r, 3, none⟩ = some (.slice (some ⟨b, off, none⟩) wl.length k2) ∧ wx.cell? ⟨b, off + k * 4, none⟩ = some (.string yk) ∧ wx.cell? ⟨b, off + k * 4 + 1, none⟩ = some (.int .i64 ykk) ∧ wx.cell? ⟨b, off + k * 4 + 1 + 1, none⟩ = some (.int .i64 yki) ∧ wx.cell? ⟨b, off + k * 4 + 1 + 2, none⟩ = some (.string ykt) ∧ wx.cell? ⟨b, off + j * 4, none⟩ = some (.string zk))
            (first | exact HSW.out _ H2.out | exact HSW.out _ ((Below.refl _ _).drew) | exact HSW.out _ (Below.refl _ _))
            (first
            | (go_at_call 19
               refine (HC1.out _).mono ?_
               rintro e w' ⟨rfl, e1⟩
               rw [e1]
               clear e1 w')
            | (go_at_call 20
               refine (HC2.out _).mono ?_
               rintro e w2 ⟨rfl, hb2⟩
               have H2 := hid (show Below wr.heap.size wr w2 from below_on ((Below.refl _ _).drew) hb2)
               clear hb2))
          go_wp2_with fail
          go_roundw
          case rel => exact ⟨k + 1, by omega, by go_num, hid (HL.out.go H2.out)⟩
          case measure => simp [intOf]; omega
      · obtain rfl : wl.length = k := by omega
        have i1 : ¬ (wl.length : Int) < (wl.length : Int) := by omega
        go_wp2_with fail
        clear r0 r1 r2 r3 r4 r5 hrz i1
        go_loopw [10] (fun ix wr => ∃ m : Nat, m ≤ lk.length ∧ ix = .int .i64 m ∧ Hid (LI W r 1 0 td wl lk t1 t2 t3 k1 k2 k3 wr)) (fun ix _ => lk.length - (intOf ix).toNat)
        case atStart => exact ⟨0, Nat.zero_le _, by go_num, HL⟩
        case round =>
          obtain ⟨m, hm, rfl, HM⟩ := hrel
          obtain ⟨r0, r1, r2, r3, r4, r5⟩ := cells5f HM.out.ef.bx
          have hrz := hp_lt HM.out.ef.bx
          by_cases hlm : m < lk.length
          · have i1 : (m : Int) < (lk.length : Int) := by omega
            obtain ⟨b, off, e2, hcap, c0, c1⟩ := HM.out.ef.looks m hlm
            subst e2
            have hlo := HEE.out.lko lk[m] (List.getElem_mem hlm)
            obtain ⟨y, hy⟩ : ∃ y, y = lk[m] := ⟨_, rfl⟩
            rw [← hy] at c0 c1 hlo
            have hbz := World.block_lt_of_cell? _ _ c0
            dsimp only at hbz
            clear hy
            obtain ⟨f, t⟩ := y
            dsimp only at c0 c1 hlo
            have HK := hid (And.intro hm hlm)
            by_cases e : t = emp
            · subst e
              clear hlo hm
              go_upto_region 19 with fail
              go_region
              go_wp2_with fail
              go_roundw
              case rel => exact ⟨m + 1, by omega, by go_num, hid (HM.out.go ((Below.refl _ _).drew))⟩
              case measure => simp [intOf]; omega
            · have q1 : Op.bytesLess t.toList f.toList = false := hlo.resolve_left e
              have q2 : (t.toList == []) = false := by
                have h1 := V.keq_false e
                simpa using h1
              by_cases e2 : f = t
              · subst e2
                clear hlo e hm q1
                go_upto_region 19 with fail
                go_region
                go_wp2_with fail
                go_roundw
                case rel => exact ⟨m + 1, by omega, by go_num, hid (HM.out.go ((Below.refl _ _).drew))⟩
                case measure => simp [intOf]; omega
              · have q3 : Op.bytesLess f.toList t.toList = true := by
                  cases e3 : Op.bytesLess f.toList t.toList
                  · exact absurd (V.kl_tri e3 q1) e2
                  · rfl
                have q4 := V.keq_false e2
                clear hlo e hm q1 e2
                go_upto_region 19 with fail
                go_region
                go_wp2_with fail
                go_roundw
                case rel => exact ⟨m + 1, by omega, by go_num, hid (HM.out.go ((Below.refl _ _).drew))⟩
                case measure => simp [intOf]; omega
          · obtain rfl : lk.length = m := by omega
            have i1 : ¬ (lk.length : Int) < (lk.length : Int) := by omega
            go_wp2_with fail
            clear r0 r1 r2 r3 r4 r5 hrz i1
            go_loopw [11] (fun ix wr => ∃ j : Nat, j ≤ td.length ∧ ix = .int .i64 j ∧ Hid (LI W r 1 0 td wl lk t1 t2 t3 k1 k2 k3 wr)) (fun ix _ => td.length - (intOf ix).toNat)
            case atStart => exact ⟨0, Nat.zero_le _, by go_num, HM⟩
            case round =>
              obtain ⟨j, hj, rfl, HN⟩ := hrel
              have ho := HN.out.o
              have u2 : wr.cell? ⟨W.heap.size, 2, none⟩ = some (.slice t1 td.length k1) := by rw [cell_of_row _ _ _ _ _ _ ho]; rfl
              have hoz := hp_lt ho
              clear ho
              by_cases hlj : j < td.length
              · have i1 : (j : Int) < (td.length : Int) := by omega
                obtain ⟨b, off, e2, hcap, c0, c1, c2⟩ := HN.out.ef.told j hlj
                subst e2
                have htv := (HEE.out.tdv td[j] (List.getElem_mem hlj)).1
                obtain ⟨y, hy⟩ : ∃ y, y = td[j] := ⟨_, rfl⟩
                rw [← hy] at c0 c1 c2 htv
                have hbz := World.block_lt_of_cell? _ _ c0
                dsimp only at hbz
                clear hy
                obtain ⟨yk, yi, yt⟩ := y
                dsimp only at c0 c1 c2 htv
                have HC2 := hid (fun W => rcheck_any yk yi yt W)
                rw [htv] at HC2
                clear htv
                go_wp2_with (first
                  | (go_at_call 20
                     refine (HC2.out _).mono ?_
                     rintro e w2 ⟨rfl, hb2⟩
                     have H2 := hid hb2
                     clear hb2))
                go_roundw
                case rel => exact ⟨j + 1, by omega, by go_num, hid (HN.out.go H2.out)⟩
                case measure => simp [intOf]; omega
              · obtain rfl : td.length = j := by omega
                have i1 : ¬ (td.length : Int) < (td.length : Int) := by omega
                go_wp2_with (first
                  | (go_at_call 17
                     refine (HKn.out _).mono ?_
                     rintro e wz ⟨rfl, hbz⟩
                     have HZ := hid hbz
                     clear hbz))
                go_ret
                exact ⟨rfl, below_on (below_on HW.out.1 HN.out.bl) HZ.out⟩

end Go.Proofs.YthcoigbkdbkojaaGreat
