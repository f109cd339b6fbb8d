import Derived.Test.YtlmompdfombgeaaGreatK21
import Derived.Test.YtlmompdfombgeaaGreatK22
import Derived.Test.YtlmompdfombgeaaGreatK23
import Derived.Test.YtlmompdfombgeaaGreatK25
import Derived.Test.YtlmompdfombgeaaGreatK27
namespace Go.Proofs.YtlmompdfombgeaaGreat
open Go.RowKit Go.MapKept

theorem step_any (x : Sp) (w0 w : World) (d r : Nat) (off : Bool) (cs : Int) (fs : List (Int × Int)) (hx : x.ok w0) (hw0 : Below w0.heap.size w0 w) (hd0 : w0.heap.size ≤ d) (hr0 : w0.heap.size ≤ r) (hsm : x.small) (h : Bo w d r off cs fs) (h0 : 0 ≤ cs) (h1 : cs ≤ 1000) (hl : fs.length ≤ 300) :
    Calls Tryz.prog 14 #[.pointer (some ⟨d, 0, none⟩), .pointer (some ⟨r, 0, none⟩), .agg #[.int .i64 x.kind, .string x.name, .string x.to, x.dv, .int .i64 x.n, x.sv, x.rv, .int .i64 x.pn, x.fv]] w (StepPost w d r cs) := by
  by_cases k1 : x.kind = 1
  · exact step_create x w0 w d r off cs fs hx hw0 hd0 hr0 hsm h h0 h1 hl k1
  by_cases k2 : x.kind = 2
  · exact step_append x w0 w d r off cs fs hx hw0 hd0 hr0 hsm h h0 h1 hl k2
  by_cases k3 : x.kind = 3
  · exact step_truncate x w0 w d r off cs fs hx hw0 hd0 hr0 hsm h h0 h1 hl k3
  by_cases k4 : x.kind = 4
  · exact step_sync x w0 w d r off cs fs hx hw0 hd0 hr0 hsm h h0 h1 hl k4
  by_cases k5 : x.kind = 5
  · exact step_names x w0 w d r off cs fs hx hw0 hd0 hr0 hsm h h0 h1 hl k5
  by_cases k6 : x.kind = 6
  · exact step_rename x w0 w d r off cs fs hx hw0 hd0 hr0 hsm h h0 h1 hl k6
  by_cases k7 : x.kind = 7
  · exact step_remove x w0 w d r off cs fs hx hw0 hd0 hr0 hsm h h0 h1 hl k7
  by_cases k8 : x.kind = 8
  · exact step_read x w0 w d r off cs fs hx hw0 hd0 hr0 hsm h h0 h1 hl k8
  by_cases k9 : x.kind = 9
  · exact step_plan x w0 w d r off cs fs hx hw0 hd0 hr0 hsm h h0 h1 hl k9
  by_cases k10 : x.kind = 10
  · exact step_crash x w0 w d r off cs fs hx hw0 hd0 hr0 hsm h h0 h1 hl k10
  by_cases k11 : x.kind = 11
  · exact step_hand x w0 w d r off cs fs hx hw0 hd0 hr0 hsm h h0 h1 hl k11
  · exact step_other x w0 w d r off cs fs hx hw0 hd0 hr0 hsm h h0 h1 hl (by omega)

theorem Bos.mono {w : World} {d r : Nat} {a b : Int} (h : Bos w d r a) (hab : a ≤ b) : Bos w d r b := by
  obtain ⟨off', cs', fs', h1, h2, h3, h4⟩ := h
  exact ⟨off', cs', fs', h1, h2, by omega, h4⟩

set_option maxRecDepth 100000 in
set_option maxHeartbeats 6400000 in
theorem nothing_any (v : Value) (xs : List Sp) (w : World) (h : Sps w v xs) : Calls Tryz.prog 6 #[v] w fun x w' => x = .returned (.bool true) ∧ Below w.heap.size w w' := by
  obtain ⟨ao, cap, rfl, hc, hcm⟩ := h.1.shape
  have HS := hid h
  clear h
  go_enter Tryz.func6, Tryz.ntmps6
  go_wp2_with (first
    | (go_at_call 13
       refine (much_any (.slice ao xs.length cap) xs w HS.out).mono ?_
       rintro e w1 ⟨hb1, rr, rfl, hm⟩
       have H1 := hid (And.intro hb1 hm)
       clear hb1 hm)
    | (go_at_call 12
       refine (known_any w1).mono ?_
       rintro e w2 ⟨rfl, hb2⟩
       have H2 := hid hb2
       clear hb2))
  · go_ret
    exact ⟨rfl, H1.out.1.trans (H2.out.mono H1.out.1.size)⟩
  rename_i hrr _ _
  obtain ⟨hlen, hsmall⟩ := H1.out.2 hrr
  have HM := hid hsmall
  have HB := hid H1.out.1
  clear hsmall H1
  subst hrr
  have hbz : Bo ((w1.alloc (.cells #[.int .i64 0, .int .i64 0, .map none, .int .i64 0, .map none, .map none, .slice none 0 0, .bool false, .int .i64 0, .map none, .int .i64 0, .map none] 53)).alloc (.cells #[.int .i64 0, .int .i64 0, .int .i64 0, .slice none 0 0, .slice none 0 0, .slice none 0 0, .slice none 0 0, .slice none 0 0, .int .i64 0, .int .i64 0, .bool false] 58)) w1.heap.size (w1.heap.size + 1) false 0 [] := by
    refine ⟨⟨.map none, .map none, .map none, hp_alloc (hp_new _ _) _, .inl rfl, .inl ⟨rfl, rfl⟩⟩, ⟨.slice none 0 0, .slice none 0 0, ?_, rf_nil _ 2, fun k e => by simp [Value.ownBlock] at e, _, _, _, rfl⟩, by omega⟩
    have := hp_new (w1.alloc (.cells #[.int .i64 0, .int .i64 0, .map none, .int .i64 0, .map none, .map none, .slice none 0 0, .bool false, .int .i64 0, .map none, .int .i64 0, .map none] 53)) (.cells #[.int .i64 0, .int .i64 0, .int .i64 0, .slice none 0 0, .slice none 0 0, .slice none 0 0, .slice none 0 0, .slice none 0 0, .int .i64 0, .int .i64 0, .bool false] 58)
    simpa using this
  have HZ := hid hbz
  clear hbz
  go_loopw [6] (fun i wr => ∃ k : Nat, k ≤ xs.length ∧ i = .int .i64 k ∧ Hid (Bos wr w1.heap.size (w1.heap.size + 1) k ∧ Below w1.heap.size w1 wr)) (fun i _ => xs.length - (intOf i).toNat)
  case atStart => exact ⟨0, Nat.zero_le _, by go_num, hid ⟨⟨false, 0, [], HZ.out, by omega, by simp, by simp⟩, ((Below.refl _ _).alloc (Nat.le_refl _) _).alloc (by simp) _⟩⟩
  case round =>
    obtain ⟨k, hk, rfl, HR⟩ := hrel
    by_cases hlt : k < xs.length
    · obtain ⟨⟨off, cs, fs, hbo, hc0, hc1, hfl⟩, hbr⟩ := HR.out
      obtain ⟨b, ofs, cap', e, -, -, hcell⟩ := Rf.elem (f := scs) (fun _ => rfl) (by omega) HS.out.1 k hlt
      injection e with e1 e2 e3
      subst e1 e3
      clear e2
      have hok := HS.out.2 xs[k] (List.getElem_mem hlt)
      have hsm := HM.out xs[k] (List.getElem_mem hlt)
      obtain ⟨x, hxe⟩ : ∃ x, x = xs[k] := ⟨_, rfl⟩
      rw [← hxe] at hcell hok hsm
      have hbw : Below w.heap.size w wr := HB.out.trans (hbr.mono HB.out.size)
      have hstep := fun (W : World) (hb : Below wr.heap.size wr W) => step_any x w1 W w1.heap.size (w1.heap.size + 1) off cs fs (hok.below HB.out) (hbr.trans (hb.mono hbr.size)) (Nat.le_refl _) (by omega) hsm (hbo.below hb) hc0 (by omega) hfl
      obtain ⟨kind, name, to, dv, data, nn, sv, gs, rv, gr, pn, fv, pk⟩ := x
      obtain ⟨-, -, -, -, -, hdt, -, hfs, -, hfr, -, hpk⟩ := hok
      obtain ⟨a1, q1, e1, d1, d2⟩ := hdt.shape
      obtain ⟨a2, q2, e2, d3, d4⟩ := hfs.shape
      obtain ⟨a3, q3, e3, d5, d6⟩ := hfr.shape
      obtain ⟨a4, q4, e4, d7, d8⟩ := hpk.1.shape
      dsimp only at e1 e2 e3 e4
      subst e1 e2 e3 e4
      have cc : ∀ c u, (scs ⟨kind, name, to, .slice a1 data.length q1, data, nn, .slice a2 gs.length q2, gs, .slice a3 gr.length q3, gr, pn, .slice a4 pk.length q4, pk⟩)[c]? = some u → wr.cell? ⟨b, ofs + k * 9 + c, none⟩ = some u := fun c u hu => (hbw.cell (World.block_lt_of_cell? _ _ (hcell c u hu))).trans (hcell c u hu)
      have c0 : wr.cell? ⟨b, ofs + k * 9, none⟩ = _ := cc 0 _ rfl
      have c1 := cc 1 _ rfl
      have c2 := cc 2 _ rfl
      have c3 := cc 3 _ rfl
      have c4 := cc 4 _ rfl
      have c5 := cc 5 _ rfl
      have c6 := cc 6 _ rfl
      have c7 := cc 7 _ rfl
      have c8 := cc 8 _ rfl
      dsimp only at hstep
      have HST := hid hstep
      have i2 : (k : Int) < (xs.length : Int) := by omega
      clear hcell cc hdt hfs hfr hpk hstep hbo hxe hsm
      have hwr : w1.heap.size + 1 < wr.heap.size := by
        obtain ⟨⟨off, cs, fs, hbo, -⟩, -⟩ := HR.out
        exact hbo.2.1.lt
      go_wp2_with (first
      | (go_at_call 14
         refine (HST.out _ ((Below.refl _ _).alloc (Nat.le_refl _) _)).mono ?_
         rintro e w2 ⟨rfl, hbos, hk2⟩
         have y0 := hk2.cell (p := ⟨wr.heap.size, 0, none⟩) (v := .int .i64 kind) (by simp [go_sem]) (by dsimp only; omega)
         have y1 := hk2.cell (p := ⟨wr.heap.size, 1, none⟩) (v := .string name) (by simp [go_sem]) (by dsimp only; omega)
         have y2 := hk2.cell (p := ⟨wr.heap.size, 2, none⟩) (v := .string to) (by simp [go_sem]) (by dsimp only; omega)
         have y3 := hk2.cell (p := ⟨wr.heap.size, 3, none⟩) (v := .slice a1 data.length q1) (by simp [go_sem]) (by dsimp only; omega)
         have y4 := hk2.cell (p := ⟨wr.heap.size, 4, none⟩) (v := .int .i64 nn) (by simp [go_sem]) (by dsimp only; omega)
         have y5 := hk2.cell (p := ⟨wr.heap.size, 5, none⟩) (v := .slice a2 gs.length q2) (by simp [go_sem]) (by dsimp only; omega)
         have y6 := hk2.cell (p := ⟨wr.heap.size, 6, none⟩) (v := .slice a3 gr.length q3) (by simp [go_sem]) (by dsimp only; omega)
         have y7 := hk2.cell (p := ⟨wr.heap.size, 7, none⟩) (v := .int .i64 pn) (by simp [go_sem]) (by dsimp only; omega)
         have y8 := hk2.cell (p := ⟨wr.heap.size, 8, none⟩) (v := .slice a4 pk.length q4) (by simp [go_sem]) (by dsimp only; omega)
         have hb2 : Below w1.heap.size w1 w2 := ((HR.out.2).trans (((Below.refl _ wr).alloc (Nat.le_refl _) _).mono HR.out.2.size)).trans (hk2.below (by simp; omega) (fun k hk e => (by omega)))
         have H2 := hid (And.intro hbos hb2)
         clear hbos hk2 hb2)
      | (go_at_call 11
         obtain ⟨off', cs', fs', hbo2, hr2⟩ := H2.out.1
         refine (alike_z hbo2.1 hbo2.2.1).mono ?_
         rintro e w3 ⟨rfl, hb⟩
         replace y0 := (hb.cell (World.block_lt_of_cell? _ _ y0)).trans y0
         replace y1 := (hb.cell (World.block_lt_of_cell? _ _ y1)).trans y1
         replace y2 := (hb.cell (World.block_lt_of_cell? _ _ y2)).trans y2
         replace y3 := (hb.cell (World.block_lt_of_cell? _ _ y3)).trans y3
         replace y4 := (hb.cell (World.block_lt_of_cell? _ _ y4)).trans y4
         replace y5 := (hb.cell (World.block_lt_of_cell? _ _ y5)).trans y5
         replace y6 := (hb.cell (World.block_lt_of_cell? _ _ y6)).trans y6
         replace y7 := (hb.cell (World.block_lt_of_cell? _ _ y7)).trans y7
         replace y8 := (hb.cell (World.block_lt_of_cell? _ _ y8)).trans y8
         have HQ := hid hb
         clear hb hbo2 hr2))
      clear c0 c1 c2 c3 c4 c5 c6 c7 c8 HST HM HS HZ
      go_wp2_with (first
        | (go_at_call 15
           refine (nread name _).mono ?_
           rintro e wn ⟨rfl, hb⟩
           replace y0 := (hb.cell (World.block_lt_of_cell? _ _ y0)).trans y0
           replace y1 := (hb.cell (World.block_lt_of_cell? _ _ y1)).trans y1
           replace y2 := (hb.cell (World.block_lt_of_cell? _ _ y2)).trans y2
           replace y3 := (hb.cell (World.block_lt_of_cell? _ _ y3)).trans y3
           replace y4 := (hb.cell (World.block_lt_of_cell? _ _ y4)).trans y4
           replace y5 := (hb.cell (World.block_lt_of_cell? _ _ y5)).trans y5
           replace y6 := (hb.cell (World.block_lt_of_cell? _ _ y6)).trans y6
           replace y7 := (hb.cell (World.block_lt_of_cell? _ _ y7)).trans y7
           replace y8 := (hb.cell (World.block_lt_of_cell? _ _ y8)).trans y8
           replace HQ := hid (HQ.out.trans (hb.mono HQ.out.size))
           clear hb)
        | (go_at_call 16
           refine (nlist _).mono ?_
           rintro e wn ⟨rfl, hb⟩
           replace y0 := (hb.cell (World.block_lt_of_cell? _ _ y0)).trans y0
           replace y1 := (hb.cell (World.block_lt_of_cell? _ _ y1)).trans y1
           replace y2 := (hb.cell (World.block_lt_of_cell? _ _ y2)).trans y2
           replace y3 := (hb.cell (World.block_lt_of_cell? _ _ y3)).trans y3
           replace y4 := (hb.cell (World.block_lt_of_cell? _ _ y4)).trans y4
           replace y5 := (hb.cell (World.block_lt_of_cell? _ _ y5)).trans y5
           replace y6 := (hb.cell (World.block_lt_of_cell? _ _ y6)).trans y6
           replace y7 := (hb.cell (World.block_lt_of_cell? _ _ y7)).trans y7
           replace y8 := (hb.cell (World.block_lt_of_cell? _ _ y8)).trans y8
           replace HQ := hid (HQ.out.trans (hb.mono HQ.out.size))
           clear hb)
        | (go_at_call 17
           refine (npending _).mono ?_
           rintro e wn ⟨rfl, hb⟩
           replace y0 := (hb.cell (World.block_lt_of_cell? _ _ y0)).trans y0
           replace y1 := (hb.cell (World.block_lt_of_cell? _ _ y1)).trans y1
           replace y2 := (hb.cell (World.block_lt_of_cell? _ _ y2)).trans y2
           replace y3 := (hb.cell (World.block_lt_of_cell? _ _ y3)).trans y3
           replace y4 := (hb.cell (World.block_lt_of_cell? _ _ y4)).trans y4
           replace y5 := (hb.cell (World.block_lt_of_cell? _ _ y5)).trans y5
           replace y6 := (hb.cell (World.block_lt_of_cell? _ _ y6)).trans y6
           replace y7 := (hb.cell (World.block_lt_of_cell? _ _ y7)).trans y7
           replace y8 := (hb.cell (World.block_lt_of_cell? _ _ y8)).trans y8
           replace HQ := hid (HQ.out.trans (hb.mono HQ.out.size))
           clear hb)
        | (go_at_call 18
           refine (nheld _).mono ?_
           rintro e wn ⟨rfl, hb⟩
           replace y0 := (hb.cell (World.block_lt_of_cell? _ _ y0)).trans y0
           replace y1 := (hb.cell (World.block_lt_of_cell? _ _ y1)).trans y1
           replace y2 := (hb.cell (World.block_lt_of_cell? _ _ y2)).trans y2
           replace y3 := (hb.cell (World.block_lt_of_cell? _ _ y3)).trans y3
           replace y4 := (hb.cell (World.block_lt_of_cell? _ _ y4)).trans y4
           replace y5 := (hb.cell (World.block_lt_of_cell? _ _ y5)).trans y5
           replace y6 := (hb.cell (World.block_lt_of_cell? _ _ y6)).trans y6
           replace y7 := (hb.cell (World.block_lt_of_cell? _ _ y7)).trans y7
           replace y8 := (hb.cell (World.block_lt_of_cell? _ _ y8)).trans y8
           replace HQ := hid (HQ.out.trans (hb.mono HQ.out.size))
           clear hb)
        | (go_at_call 19
           refine (nplan a2 a3 gs.length q2 gr.length q3 _).mono ?_
           rintro e wn ⟨rfl, hb⟩
           replace y0 := (hb.cell (World.block_lt_of_cell? _ _ y0)).trans y0
           replace y1 := (hb.cell (World.block_lt_of_cell? _ _ y1)).trans y1
           replace y2 := (hb.cell (World.block_lt_of_cell? _ _ y2)).trans y2
           replace y3 := (hb.cell (World.block_lt_of_cell? _ _ y3)).trans y3
           replace y4 := (hb.cell (World.block_lt_of_cell? _ _ y4)).trans y4
           replace y5 := (hb.cell (World.block_lt_of_cell? _ _ y5)).trans y5
           replace y6 := (hb.cell (World.block_lt_of_cell? _ _ y6)).trans y6
           replace y7 := (hb.cell (World.block_lt_of_cell? _ _ y7)).trans y7
           replace y8 := (hb.cell (World.block_lt_of_cell? _ _ y8)).trans y8
           replace HQ := hid (HQ.out.trans (hb.mono HQ.out.size))
           clear hb)
        | (go_at_call 20
           refine (ncreate name _).mono ?_
           rintro e wn ⟨rfl, hb⟩
           replace y0 := (hb.cell (World.block_lt_of_cell? _ _ y0)).trans y0
           replace y1 := (hb.cell (World.block_lt_of_cell? _ _ y1)).trans y1
           replace y2 := (hb.cell (World.block_lt_of_cell? _ _ y2)).trans y2
           replace y3 := (hb.cell (World.block_lt_of_cell? _ _ y3)).trans y3
           replace y4 := (hb.cell (World.block_lt_of_cell? _ _ y4)).trans y4
           replace y5 := (hb.cell (World.block_lt_of_cell? _ _ y5)).trans y5
           replace y6 := (hb.cell (World.block_lt_of_cell? _ _ y6)).trans y6
           replace y7 := (hb.cell (World.block_lt_of_cell? _ _ y7)).trans y7
           replace y8 := (hb.cell (World.block_lt_of_cell? _ _ y8)).trans y8
           replace HQ := hid (HQ.out.trans (hb.mono HQ.out.size))
           clear hb)
        | (go_at_call 21
           refine (nappend name a1 data.length q1 _).mono ?_
           rintro e wn ⟨rfl, hb⟩
           replace y0 := (hb.cell (World.block_lt_of_cell? _ _ y0)).trans y0
           replace y1 := (hb.cell (World.block_lt_of_cell? _ _ y1)).trans y1
           replace y2 := (hb.cell (World.block_lt_of_cell? _ _ y2)).trans y2
           replace y3 := (hb.cell (World.block_lt_of_cell? _ _ y3)).trans y3
           replace y4 := (hb.cell (World.block_lt_of_cell? _ _ y4)).trans y4
           replace y5 := (hb.cell (World.block_lt_of_cell? _ _ y5)).trans y5
           replace y6 := (hb.cell (World.block_lt_of_cell? _ _ y6)).trans y6
           replace y7 := (hb.cell (World.block_lt_of_cell? _ _ y7)).trans y7
           replace y8 := (hb.cell (World.block_lt_of_cell? _ _ y8)).trans y8
           replace HQ := hid (HQ.out.trans (hb.mono HQ.out.size))
           clear hb)
        | (go_at_call 22
           refine (ntruncate name nn _).mono ?_
           rintro e wn ⟨rfl, hb⟩
           replace y0 := (hb.cell (World.block_lt_of_cell? _ _ y0)).trans y0
           replace y1 := (hb.cell (World.block_lt_of_cell? _ _ y1)).trans y1
           replace y2 := (hb.cell (World.block_lt_of_cell? _ _ y2)).trans y2
           replace y3 := (hb.cell (World.block_lt_of_cell? _ _ y3)).trans y3
           replace y4 := (hb.cell (World.block_lt_of_cell? _ _ y4)).trans y4
           replace y5 := (hb.cell (World.block_lt_of_cell? _ _ y5)).trans y5
           replace y6 := (hb.cell (World.block_lt_of_cell? _ _ y6)).trans y6
           replace y7 := (hb.cell (World.block_lt_of_cell? _ _ y7)).trans y7
           replace y8 := (hb.cell (World.block_lt_of_cell? _ _ y8)).trans y8
           replace HQ := hid (HQ.out.trans (hb.mono HQ.out.size))
           clear hb)
        | (go_at_call 23
           refine (nsync name _).mono ?_
           rintro e wn ⟨rfl, hb⟩
           replace y0 := (hb.cell (World.block_lt_of_cell? _ _ y0)).trans y0
           replace y1 := (hb.cell (World.block_lt_of_cell? _ _ y1)).trans y1
           replace y2 := (hb.cell (World.block_lt_of_cell? _ _ y2)).trans y2
           replace y3 := (hb.cell (World.block_lt_of_cell? _ _ y3)).trans y3
           replace y4 := (hb.cell (World.block_lt_of_cell? _ _ y4)).trans y4
           replace y5 := (hb.cell (World.block_lt_of_cell? _ _ y5)).trans y5
           replace y6 := (hb.cell (World.block_lt_of_cell? _ _ y6)).trans y6
           replace y7 := (hb.cell (World.block_lt_of_cell? _ _ y7)).trans y7
           replace y8 := (hb.cell (World.block_lt_of_cell? _ _ y8)).trans y8
           replace HQ := hid (HQ.out.trans (hb.mono HQ.out.size))
           clear hb)
        | (go_at_call 24
           refine (nsyncNames _).mono ?_
           rintro e wn ⟨rfl, hb⟩
           replace y0 := (hb.cell (World.block_lt_of_cell? _ _ y0)).trans y0
           replace y1 := (hb.cell (World.block_lt_of_cell? _ _ y1)).trans y1
           replace y2 := (hb.cell (World.block_lt_of_cell? _ _ y2)).trans y2
           replace y3 := (hb.cell (World.block_lt_of_cell? _ _ y3)).trans y3
           replace y4 := (hb.cell (World.block_lt_of_cell? _ _ y4)).trans y4
           replace y5 := (hb.cell (World.block_lt_of_cell? _ _ y5)).trans y5
           replace y6 := (hb.cell (World.block_lt_of_cell? _ _ y6)).trans y6
           replace y7 := (hb.cell (World.block_lt_of_cell? _ _ y7)).trans y7
           replace y8 := (hb.cell (World.block_lt_of_cell? _ _ y8)).trans y8
           replace HQ := hid (HQ.out.trans (hb.mono HQ.out.size))
           clear hb)
        | (go_at_call 25
           refine (nrename name to _).mono ?_
           rintro e wn ⟨rfl, hb⟩
           replace y0 := (hb.cell (World.block_lt_of_cell? _ _ y0)).trans y0
           replace y1 := (hb.cell (World.block_lt_of_cell? _ _ y1)).trans y1
           replace y2 := (hb.cell (World.block_lt_of_cell? _ _ y2)).trans y2
           replace y3 := (hb.cell (World.block_lt_of_cell? _ _ y3)).trans y3
           replace y4 := (hb.cell (World.block_lt_of_cell? _ _ y4)).trans y4
           replace y5 := (hb.cell (World.block_lt_of_cell? _ _ y5)).trans y5
           replace y6 := (hb.cell (World.block_lt_of_cell? _ _ y6)).trans y6
           replace y7 := (hb.cell (World.block_lt_of_cell? _ _ y7)).trans y7
           replace y8 := (hb.cell (World.block_lt_of_cell? _ _ y8)).trans y8
           replace HQ := hid (HQ.out.trans (hb.mono HQ.out.size))
           clear hb)
        | (go_at_call 26
           refine (nremove name _).mono ?_
           rintro e wn ⟨rfl, hb⟩
           replace y0 := (hb.cell (World.block_lt_of_cell? _ _ y0)).trans y0
           replace y1 := (hb.cell (World.block_lt_of_cell? _ _ y1)).trans y1
           replace y2 := (hb.cell (World.block_lt_of_cell? _ _ y2)).trans y2
           replace y3 := (hb.cell (World.block_lt_of_cell? _ _ y3)).trans y3
           replace y4 := (hb.cell (World.block_lt_of_cell? _ _ y4)).trans y4
           replace y5 := (hb.cell (World.block_lt_of_cell? _ _ y5)).trans y5
           replace y6 := (hb.cell (World.block_lt_of_cell? _ _ y6)).trans y6
           replace y7 := (hb.cell (World.block_lt_of_cell? _ _ y7)).trans y7
           replace y8 := (hb.cell (World.block_lt_of_cell? _ _ y8)).trans y8
           replace HQ := hid (HQ.out.trans (hb.mono HQ.out.size))
           clear hb)
        | (go_at_call 27
           refine (nhand name a1 data.length q1 _).mono ?_
           rintro e wn ⟨rfl, hb⟩
           replace y0 := (hb.cell (World.block_lt_of_cell? _ _ y0)).trans y0
           replace y1 := (hb.cell (World.block_lt_of_cell? _ _ y1)).trans y1
           replace y2 := (hb.cell (World.block_lt_of_cell? _ _ y2)).trans y2
           replace y3 := (hb.cell (World.block_lt_of_cell? _ _ y3)).trans y3
           replace y4 := (hb.cell (World.block_lt_of_cell? _ _ y4)).trans y4
           replace y5 := (hb.cell (World.block_lt_of_cell? _ _ y5)).trans y5
           replace y6 := (hb.cell (World.block_lt_of_cell? _ _ y6)).trans y6
           replace y7 := (hb.cell (World.block_lt_of_cell? _ _ y7)).trans y7
           replace y8 := (hb.cell (World.block_lt_of_cell? _ _ y8)).trans y8
           replace HQ := hid (HQ.out.trans (hb.mono HQ.out.size))
           clear hb)
        | (go_at_call 28
           refine (ncrash pn a4 pk.length q4 _).mono ?_
           rintro e wn ⟨rfl, hb⟩
           replace y0 := (hb.cell (World.block_lt_of_cell? _ _ y0)).trans y0
           replace y1 := (hb.cell (World.block_lt_of_cell? _ _ y1)).trans y1
           replace y2 := (hb.cell (World.block_lt_of_cell? _ _ y2)).trans y2
           replace y3 := (hb.cell (World.block_lt_of_cell? _ _ y3)).trans y3
           replace y4 := (hb.cell (World.block_lt_of_cell? _ _ y4)).trans y4
           replace y5 := (hb.cell (World.block_lt_of_cell? _ _ y5)).trans y5
           replace y6 := (hb.cell (World.block_lt_of_cell? _ _ y6)).trans y6
           replace y7 := (hb.cell (World.block_lt_of_cell? _ _ y7)).trans y7
           replace y8 := (hb.cell (World.block_lt_of_cell? _ _ y8)).trans y8
           replace HQ := hid (HQ.out.trans (hb.mono HQ.out.size))
           clear hb)
        | (go_at_call 29
           refine (nfiles _).mono ?_
           rintro e wn ⟨rfl, hb⟩
           replace y0 := (hb.cell (World.block_lt_of_cell? _ _ y0)).trans y0
           replace y1 := (hb.cell (World.block_lt_of_cell? _ _ y1)).trans y1
           replace y2 := (hb.cell (World.block_lt_of_cell? _ _ y2)).trans y2
           replace y3 := (hb.cell (World.block_lt_of_cell? _ _ y3)).trans y3
           replace y4 := (hb.cell (World.block_lt_of_cell? _ _ y4)).trans y4
           replace y5 := (hb.cell (World.block_lt_of_cell? _ _ y5)).trans y5
           replace y6 := (hb.cell (World.block_lt_of_cell? _ _ y6)).trans y6
           replace y7 := (hb.cell (World.block_lt_of_cell? _ _ y7)).trans y7
           replace y8 := (hb.cell (World.block_lt_of_cell? _ _ y8)).trans y8
           replace HQ := hid (HQ.out.trans (hb.mono HQ.out.size))
           clear hb)
        | (go_at_call 30
           refine (nsafe _).mono ?_
           rintro e wn ⟨rfl, hb⟩
           replace y0 := (hb.cell (World.block_lt_of_cell? _ _ y0)).trans y0
           replace y1 := (hb.cell (World.block_lt_of_cell? _ _ y1)).trans y1
           replace y2 := (hb.cell (World.block_lt_of_cell? _ _ y2)).trans y2
           replace y3 := (hb.cell (World.block_lt_of_cell? _ _ y3)).trans y3
           replace y4 := (hb.cell (World.block_lt_of_cell? _ _ y4)).trans y4
           replace y5 := (hb.cell (World.block_lt_of_cell? _ _ y5)).trans y5
           replace y6 := (hb.cell (World.block_lt_of_cell? _ _ y6)).trans y6
           replace y7 := (hb.cell (World.block_lt_of_cell? _ _ y7)).trans y7
           replace y8 := (hb.cell (World.block_lt_of_cell? _ _ y8)).trans y8
           replace HQ := hid (HQ.out.trans (hb.mono HQ.out.size))
           clear hb)
        | (go_at_call 31
           refine (noff _).mono ?_
           rintro e wn ⟨rfl, hb⟩
           replace y0 := (hb.cell (World.block_lt_of_cell? _ _ y0)).trans y0
           replace y1 := (hb.cell (World.block_lt_of_cell? _ _ y1)).trans y1
           replace y2 := (hb.cell (World.block_lt_of_cell? _ _ y2)).trans y2
           replace y3 := (hb.cell (World.block_lt_of_cell? _ _ y3)).trans y3
           replace y4 := (hb.cell (World.block_lt_of_cell? _ _ y4)).trans y4
           replace y5 := (hb.cell (World.block_lt_of_cell? _ _ y5)).trans y5
           replace y6 := (hb.cell (World.block_lt_of_cell? _ _ y6)).trans y6
           replace y7 := (hb.cell (World.block_lt_of_cell? _ _ y7)).trans y7
           replace y8 := (hb.cell (World.block_lt_of_cell? _ _ y8)).trans y8
           replace HQ := hid (HQ.out.trans (hb.mono HQ.out.size))
           clear hb)
        | (go_at_call 32
           refine (nstrokes _).mono ?_
           rintro e wn ⟨rfl, hb⟩
           replace y0 := (hb.cell (World.block_lt_of_cell? _ _ y0)).trans y0
           replace y1 := (hb.cell (World.block_lt_of_cell? _ _ y1)).trans y1
           replace y2 := (hb.cell (World.block_lt_of_cell? _ _ y2)).trans y2
           replace y3 := (hb.cell (World.block_lt_of_cell? _ _ y3)).trans y3
           replace y4 := (hb.cell (World.block_lt_of_cell? _ _ y4)).trans y4
           replace y5 := (hb.cell (World.block_lt_of_cell? _ _ y5)).trans y5
           replace y6 := (hb.cell (World.block_lt_of_cell? _ _ y6)).trans y6
           replace y7 := (hb.cell (World.block_lt_of_cell? _ _ y7)).trans y7
           replace y8 := (hb.cell (World.block_lt_of_cell? _ _ y8)).trans y8
           replace HQ := hid (HQ.out.trans (hb.mono HQ.out.size))
           clear hb)
        | (go_at_call 33
           refine (nreads _).mono ?_
           rintro e wn ⟨rfl, hb⟩
           replace y0 := (hb.cell (World.block_lt_of_cell? _ _ y0)).trans y0
           replace y1 := (hb.cell (World.block_lt_of_cell? _ _ y1)).trans y1
           replace y2 := (hb.cell (World.block_lt_of_cell? _ _ y2)).trans y2
           replace y3 := (hb.cell (World.block_lt_of_cell? _ _ y3)).trans y3
           replace y4 := (hb.cell (World.block_lt_of_cell? _ _ y4)).trans y4
           replace y5 := (hb.cell (World.block_lt_of_cell? _ _ y5)).trans y5
           replace y6 := (hb.cell (World.block_lt_of_cell? _ _ y6)).trans y6
           replace y7 := (hb.cell (World.block_lt_of_cell? _ _ y7)).trans y7
           replace y8 := (hb.cell (World.block_lt_of_cell? _ _ y8)).trans y8
           replace HQ := hid (HQ.out.trans (hb.mono HQ.out.size))
           clear hb)
      )
      have hbn := HQ.out
      obtain ⟨⟨off', cs', fs', hbo2, hr2, hr3, hr4⟩, hb2⟩ := H2.out
      refine ⟨⟨k + 1, by omega, by go_num, hid ⟨⟨off', cs', fs', hbo2.below hbn, hr2, by omega, hr4⟩, hb2.trans (hbn.mono hb2.size)⟩⟩, by simp [intOf]; omega⟩
    · have i2 : ¬ (k : Int) < (xs.length : Int) := by omega
      go_wp2_with (
        go_at_call 12
        refine (known_any wr).mono ?_
        rintro e w2 ⟨rfl, hb2⟩
        have H2 := hid hb2
        clear hb2)
      go_ret
      obtain ⟨-, hbr⟩ := HR.out
      exact ⟨rfl, (HB.out.trans (hbr.mono HB.out.size)).trans (H2.out.mono (Nat.le_trans HB.out.size hbr.size))⟩

end Go.Proofs.YtlmompdfombgeaaGreat
