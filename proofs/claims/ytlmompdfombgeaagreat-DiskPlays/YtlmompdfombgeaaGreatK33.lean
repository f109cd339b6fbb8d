import Derived.Test.YtlmompdfombgeaaGreatK32
import Derived.Test.YtlmompdfombgeaaGreatK23
import Derived.Test.YtlmompdfombgeaaGreatK29
import Derived.Test.YtlmompdfombgeaaGreatK21
namespace Go.Proofs.YtlmompdfombgeaaGreat
open Go.RowKit Go.MapKept

theorem flat_u8 : ∀ data : List Int, data.flatMap (fun y => [Value.int .u8 y]) = B8 data
  | [] => rfl
  | y :: l => by rw [List.flatMap_cons, flat_u8 l]; rfl

/-- Both disks, in the same state. -/
def Bo (w : World) (d r : Nat) (off : Bool) (cs : Int) (fs : List (Int × Int)) : Prop := ZD w d off cs fs ∧ ZR w r off cs fs ∧ d < r

theorem Bo.below {w w' : World} {d r : Nat} {off : Bool} {cs : Int} {fs : List (Int × Int)} (h : Bo w d r off cs fs) (hk : Below w.heap.size w w') : Bo w' d r off cs fs := ⟨h.1.below hk, h.2.1.below hk, h.2.2⟩

theorem ZR.lt {w : World} {r : Nat} {off : Bool} {cs : Int} {fs : List (Int × Int)} (h : ZR w r off cs fs) : r < w.heap.size := by
  obtain ⟨sv, rv, h1, h2, h3⟩ := h
  exact hp_lt h1

/-- Both disks, in some state of at most so many strokes. -/
def Bos (w : World) (d r : Nat) (cs : Int) : Prop := ∃ off' cs' fs', Bo w d r off' cs' fs' ∧ 0 ≤ cs' ∧ cs' ≤ cs ∧ fs'.length ≤ 300

theorem own_cell_u8 {w : World} {g : Nat} {bs : List Int} (ho : Own w g bs) (a : Addr) (ha : a.block = g) (u : Value) (h : w.cell? a = some u) : ∃ y, u = .int .u8 y := by
  obtain ⟨b, o, sp⟩ := a
  dsimp only at ha
  subst ha
  have hsp : sp = none := by simpa using World.cell?_spot h
  subst hsp
  rw [cell_of_row w b o _ _ _ ho] at h
  simp [B8] at h
  obtain ⟨y, _, rfl⟩ := h
  exact ⟨y, rfl⟩

theorem fl_other {w w' : World} {g : Nat} {bs : List Int} {v : Value} {fs : List (Int × Int)} (h : Fl w v fs) (ho : Own w g bs) (hk : Kept (fun k => k = g) w w') : Fl w' v fs := by
  obtain ⟨h0, h1, h2⟩ := h
  refine ⟨h0, h1, ?_⟩
  rcases h2 with h2 | ⟨a, cap, rfl, h3, h5, h4⟩
  · exact .inl h2
  · refine .inr ⟨a, cap, rfl, h3, h5, fun j u hu => hk.cell (h4 j u hu) (fun e => ?_)⟩
    obtain ⟨y, rfl⟩ := own_cell_u8 ho _ e u (h4 j u hu)
    obtain ⟨z, _, hz⟩ := List.mem_flatMap.1 (List.mem_of_getElem? hu)
    simp [fcs] at hz

theorem Bos.wipe {w w' : World} {d r g : Nat} {bs : List Int} {cs : Int} (h : Bos w d r cs) (ho : Own w g bs) (hk : Kept (fun k => k = g) w w') (hd : d ≠ g) (hr : r ≠ g) : Bos w' d r cs := by
  obtain ⟨off', cs', fs', ⟨h1, ⟨sv, rv, h2, h3, h4⟩, h5⟩, h6⟩ := h
  exact ⟨off', cs', fs', ⟨h1.kept hk hd (fun b es c hb e => by subst e; exact hp_ne ho hb (by simp) rfl), ⟨sv, rv, hp_kept h2 hk hr, fl_other h3 ho hk, h4⟩, h5⟩, h6⟩

end Go.Proofs.YtlmompdfombgeaaGreat

namespace Go.Proofs.YtlmompdfombgeaaGreat
open Go.RowKit Go.MapKept

/-- What a step is asked of. -/
structure SPre (w0 w : World) (d r : Nat) (t : Wt) (R : Rt) (D : Dq) (n : Nat) (x : Sp) : Prop where
  ok : x.ok w0
  b0 : Below w0.heap.size w0 w
  lo : ∀ k, Pft d r t R D k → w0.heap.size ≤ k
  sm : x.small
  pr : Pr w d r t R D D
  wd : WD n D
  nn : n ≤ 80000
  tk : TOK D
  f1 : D.fs.length ≤ 300
  f2 : D.fr.length ≤ 300

/-- What a step leaves. -/
def SPost (w : World) (d r : Nat) (t : Wt) (R : Rt) (D : Dq) (n : Nat) (x : Ending) (w' : World) : Prop :=
  x = .returned (.bool true) ∧ ∃ t' R' D', PG d r w t R D w' t' R' D' D' ∧ WD (n + 2) D' ∧ TOK D' ∧ D'.fs.length ≤ 300 ∧ D'.fr.length ≤ 300

/-- What was handed in is written over. -/
theorem PG.wipe {d r : Nat} {w w1 w4 wr : World} {t t' : Wt} {R R' : Rt} {D D' E' : Dq} {g : Nat} (h : Pr w d r t R D D) (hb : Below w.heap.size w w1) (p : PG d r w1 t R D w4 t' R' D' E') (hk : Kept (fun k => k = g) w4 wr) (h1 : w.heap.size ≤ g) (h2 : g < w1.heap.size) : PG d r w t R D wr t' R' D' E' := by
  have hg : ∀ k, Pft d r t' R' D' k → ¬ k = g := fun k e e2 => by
    rcases p.ft k e with e | e
    · have := h.lt k e; omega
    · omega
  exact ⟨p.pr.kept hk hg, (((Kept.ofBelow hb).mono (S' := Pft d r t R D) (fun _ _ e => e.elim)).trans p.kp (fun _ _ e => e)).trans hk (fun k hk e => by omega), fun k e => by
    rcases p.ft k e with e | e
    · exact .inl e
    · exact .inr (Nat.le_trans hb.size e)⟩

theorem given_sl {W : World} {g : Nat} {data : List Int} (h : Own W g (rm data)) : Sl W (.slice (some ⟨g, 0, none⟩) data.length (data.length + 40)) data :=
  ⟨_, _, rfl, by omega, fun _ => ⟨g, 0, rfl, fun j x hx => by rw [Nat.zero_add]; exact h.cell j x (by unfold rm; rw [List.getElem?_append_left (List.getElem?_eq_some_iff.1 hx).1]; exact hx)⟩⟩

theorem sl_low {w0 : World} {v : Value} {data : List Int} (h : Sl w0 v data) (hne : data ≠ []) {k : Nat} (e : v.ownBlock = some k) : k < w0.heap.size := by
  obtain ⟨ao, cap, rfl, _, hx⟩ := h
  obtain ⟨b, off, rfl, hj⟩ := hx hne
  simp only [Value.ownBlock, Option.some.injEq] at e
  subst e
  have h1 := hj 0 (data[0]'(List.length_pos_iff.2 hne)) (by simp)
  exact World.block_lt_of_cell? _ _ h1

theorem strokeP_cases (D : Dq) (e : Int) (k : Dq → Int × Dq) : (strokeP D e k).2 = D ∨ (strokeP D e k).2 = cntS D ∨ (e = 0 ∧ (strokeP D e k).2 = (k (cntS D)).2) := by
  unfold strokeP
  by_cases he : e ≠ 0
  · rw [if_pos he]; exact .inl rfl
  · rw [if_neg he]
    by_cases hf : fe (fo D.fs (D.st + 1)) ≠ 0
    · rw [if_pos hf]; exact .inr (.inl rfl)
    · rw [if_neg hf]; exact .inr (.inr ⟨by simpa using he, rfl⟩)

/-- The disk behind a stroke: its changes of names fit, its plan is as it was. -/
def Tk3 (D D' : Dq) : Prop := TOK D' ∧ D'.fs = D.fs ∧ D'.fr = D.fr

theorem tk_stroke {D : Dq} (h : TOK D) (e : Int) (k : Dq → Int × Dq) (hk : e = 0 → Tk3 D (k (cntS D)).2) : Tk3 D (strokeP D e k).2 := by
  rcases strokeP_cases D e k with h1 | h1 | ⟨h0, h1⟩
  · rw [h1]; exact ⟨h, rfl, rfl⟩
  · rw [h1]; exact ⟨h.same rfl rfl, rfl, rfl⟩
  · rw [h1]; exact hk h0

theorem tk_create {D : Dq} (h : TOK D) (nm : ByteArray) : Tk3 D (createP D nm).2 := tk_stroke h _ _ fun e => by
  have hok : nmOK nm = true := by
    rcases pre1_cases D nm with ⟨_, q, _⟩ | ⟨_, _, _, q⟩ | ⟨q0, _, q⟩
    · rw [e] at q; cases q
    · exact q
    · rw [e] at q; exact absurd q.symm q0
  unfold createK
  split
  · exact ⟨h.same rfl rfl, rfl, rfl⟩
  · exact ⟨(h.same (D' := cntS D) rfl rfl).snoc (x := (⟨#[]⟩, nm, _)) rfl rfl (fun _ => nmOK_ne hok) (fun e => by rw [emp_empty] at e; cases e), rfl, rfl⟩

theorem tk_app {D : Dq} (h : TOK D) (nm : ByteArray) (ys : List Int) : Tk3 D (appP D nm ys).2 := tk_stroke h _ _ fun _ => by
  unfold appK
  split
  · split
    · exact ⟨h.same rfl rfl, rfl, rfl⟩
    · split
      · exact ⟨h.same rfl rfl, rfl, rfl⟩
      · exact ⟨h.same rfl rfl, rfl, rfl⟩
  · exact ⟨h.same rfl rfl, rfl, rfl⟩

theorem tk_cut {D : Dq} (h : TOK D) (nm : ByteArray) (sz : Int) : Tk3 D (cutP D nm sz).2 := tk_stroke h _ _ fun _ => by
  unfold cutK
  dsimp only
  split
  · split
    · exact ⟨h.same rfl rfl, rfl, rfl⟩
    · exact ⟨h.same rfl rfl, rfl, rfl⟩
  · exact ⟨h.same rfl rfl, rfl, rfl⟩

theorem tk_sync {D : Dq} (h : TOK D) (nm : ByteArray) : Tk3 D (syncP D nm).2 := tk_stroke h _ _ fun _ => by
  unfold syncK
  dsimp only
  split
  · exact ⟨h.same rfl rfl, rfl, rfl⟩
  · exact ⟨h.same rfl rfl, rfl, rfl⟩

theorem tk_syncN {D : Dq} (h : TOK D) : Tk3 D (syncNP D).2 := tk_stroke h _ _ fun _ => ⟨TOK.nil rfl, rfl, rfl⟩

theorem tk_rem {D : Dq} (h : TOK D) (nm : ByteArray) : Tk3 D (remP D nm).2 := tk_stroke h _ _ fun e => by
  obtain ⟨_, hok⟩ := pre1_zero e
  exact ⟨(h.same (D' := cntS D) rfl rfl).snoc (x := (nm, ⟨#[]⟩, 0)) rfl rfl (fun e => by rw [nmOK_ne hok] at e; cases e) (fun _ e => by dsimp only at e; rw [emp_empty] at e; cases e), rfl, rfl⟩

theorem tk_ren {D : Dq} (h : TOK D) (nm mn : ByteArray) : Tk3 D (renP D nm mn).2 := tk_stroke h _ _ fun e => by
  unfold renK
  dsimp only
  split
  · exact ⟨h.same rfl rfl, rfl, rfl⟩
  · have h2 : nmOK nm = true ∧ nmOK mn = true ∧ ∃ f, D.look nm = some f := by
      unfold pre2 at e
      cases ho : D.off
      · rw [ho] at e
        cases hk : (nmOK nm && nmOK mn)
        · rw [hk] at e; simp at e
        · rw [hk] at e
          rw [Bool.and_eq_true] at hk
          cases hl : D.look nm with
          | none => rw [hl] at e; simp at e
          | some f => exact ⟨hk.1, hk.2, f, rfl⟩
      · rw [ho] at e; simp at e
    obtain ⟨o1, o2, f, hl⟩ := h2
    have hlo := (look_mem hl).2
    refine ⟨(h.same (D' := cntS D) rfl rfl).snoc (x := (nm, mn, _)) rfl rfl (fun e => by rw [nmOK_ne o1] at e; cases e) (fun _ _ => ?_), rfl, rfl⟩
    show lo nm D.names = some ((lo nm D.names).getD 0)
    rw [hlo]
    rfl

theorem tk_hand {D : Dq} (h : TOK D) (nm : ByteArray) (bs : List Int) : Tk3 D (handP D nm bs).2 := by
  unfold handP
  split
  · exact ⟨h, rfl, rfl⟩
  · split
    · exact ⟨h, rfl, rfl⟩
    · split
      · exact ⟨h, rfl, rfl⟩
      · exact ⟨TOK.nil rfl, rfl, rfl⟩

end Go.Proofs.YtlmompdfombgeaaGreat

namespace Go.Proofs.YtlmompdfombgeaaGreat
open Go.RowKit Go.MapKept

set_option maxRecDepth 100000 in
set_option maxHeartbeats 6400000 in
theorem st_Create {w0 w : World} {d r : Nat} {t : Wt} {R : Rt} {D : Dq} {n : Nat} (x : Sp) (p : SPre w0 w d r t R D n x) (hk : x.kind = 1) :
    Calls Tryz.prog 14 #[.pointer (some ⟨d, 0, none⟩), .pointer (some ⟨r, 0, none⟩), .agg #[.int .i64 x.kind, .string x.name, .string x.to, x.dv, .int .i64 x.n, x.sv, x.rv, .int .i64 x.pn, x.fv]] w (SPost w d r t R D n) := by
  obtain ⟨hx, hw0, hlo, hsm, hpr, hwd, hnn, htk, hf1, hf2⟩ := p
  obtain ⟨kind, name, tto, dv, data, nn, sv, gs, rv, gr, pn, fv, pk⟩ := x
  obtain ⟨-, -, hpn, hn1, hn2, hdt, hoct, hfs, -, hfr, -, hpk⟩ := hx
  obtain ⟨m1, m2, m3, m4, m5, m6, m7⟩ := hsm
  obtain ⟨a1, q1, e1, d1, d2⟩ := hdt.shape
  obtain ⟨a2, q2, e2, d3, d4⟩ := hfs.shape
  obtain ⟨a3, q3, e3, d5, d6⟩ := hfr.shape
  obtain ⟨a4, q4, e4, d7, d8⟩ := hpk.1.shape
  dsimp only at e1 e2 e3 e4 hn1 hn2 hk d1 d2 d3 d4 d5 d6 d7 d8 hdt hfs hfr hpk m1 m2 m3 m4 m5 m6 m7 hpn
  subst e1 e2 e3 e4
  dsimp only
  obtain rfl : kind = 1 := hk
  have hdt' : Rf w0 1 (.slice a1 data.length q1) data.length (B8 data) := by
    rw [← flat_u8]
    exact hdt
  have hsl0 := hdt'.sl
  have hw0z := hw0.size
  have hPl := hpr.lt
  have HX := hid (And.intro hpr (And.intro hw0 (And.intro hsl0 (And.intro hlo (And.intro hwd (And.intro htk (And.intro hf1 hf2)))))))
  have HPL := hid hPl
  clear hpr hw0 hsl0 hfs hfr hpk hdt hdt' hoct m7 hlo hwd htk hPl
  have hbx : Below w.heap.size w (w.alloc (.cells #[.int .i64 1, .string name, .string tto, .slice a1 data.length q1, .int .i64 nn, .slice a2 gs.length q2, .slice a3 gr.length q3, .int .i64 pn, .slice a4 pk.length q4] 43)) := (Below.refl _ _).alloc (Nat.le_refl _) _
  have HBX := hid hbx
  clear hbx
  obtain ⟨res, hres⟩ : ∃ res : Int, res = (createP D name).1 := ⟨_, rfl⟩
  have HRES := hid hres
  clear hres
  go_enter Tryz.func14, Tryz.ntmps14
  go_wp2_with (
    go_at_call 51
    refine (roomy_any (.slice a1 data.length q1) data _ ((HX.out.2.2.1.1.below HX.out.2.1).below HBX.out) (by omega)).mono ?_
    rintro e w1 ⟨rfl, ho1, hb1⟩
    have es := (show (w.alloc (.cells #[.int .i64 1, .string name, .string tto, .slice a1 data.length q1, .int .i64 nn, .slice a2 gs.length q2, .slice a3 gr.length q3, .int .i64 pn, .slice a4 pk.length q4] 43)).heap.size = w.heap.size + 1 from by simp)
    rw [es] at ho1 hb1 ⊢
    have hbw1 : Below w.heap.size w w1 := HBX.out.trans (hb1.mono (by omega))
    have x0 : w1.cell? ⟨w.heap.size, 0, none⟩ = some (.int .i64 1) := (hb1.cell (by simp)).trans (by simp [go_sem])
    have x1 : w1.cell? ⟨w.heap.size, 1, none⟩ = some (.string name) := (hb1.cell (by simp)).trans (by simp [go_sem])
    have x2 : w1.cell? ⟨w.heap.size, 2, none⟩ = some (.string tto) := (hb1.cell (by simp)).trans (by simp [go_sem])
    have x3 : w1.cell? ⟨w.heap.size, 3, none⟩ = some (.slice a1 data.length q1) := (hb1.cell (by simp)).trans (by simp [go_sem])
    have x4 : w1.cell? ⟨w.heap.size, 4, none⟩ = some (.int .i64 nn) := (hb1.cell (by simp)).trans (by simp [go_sem])
    have hz1 : w.heap.size + 1 < w1.heap.size := hp_lt ho1
    have H1 := hid (And.intro ho1 (And.intro hbw1 (HX.out.1.below hbw1)))
    clear ho1 hb1 es hbw1)
  go_wp2_with fail
  have hbd1 : Below w1.heap.size w1 w1.drew := ⟨rfl, rfl, rfl, Nat.le_refl _, fun _ _ => rfl⟩
  have HPD := hid (H1.out.2.2.below hbd1)
  have HCX := hid (show ∀ W, Kept (Pft d r t R D) w1 W → W.cell? ⟨w.heap.size, 1, none⟩ = some (.string name) ∧ W.cell? ⟨w.heap.size, 2, none⟩ = some (.string tto) ∧ W.cell? ⟨w.heap.size, 3, none⟩ = some (.slice a1 data.length q1) ∧ W.cell? ⟨w.heap.size, 4, none⟩ = some (.int .i64 nn) from fun W hk => by
    have hn : ¬ Pft d r t R D w.heap.size := fun e => by have := HPL.out _ e; omega
    exact ⟨hk.cell x1 hn, hk.cell x2 hn, hk.cell x3 hn, hk.cell x4 hn⟩)
  have HK1 := hid (show Kept (Pft d r t R D) w1 w1.drew from (Kept.ofBelow hbd1).mono (fun _ _ e => e.elim))
  have HSD := hid (show ∀ W, Kept (Pft d r t R D) w1 W → Sn W (.slice a1 data.length q1) data ∧ Own W (w.heap.size + 1) (rm data) from fun W hk => by
    have hb0 : Below w0.heap.size w0 W := (HX.out.2.1.trans (H1.out.2.1.mono hw0z)).trans (hk.below (Nat.le_trans hw0z H1.out.2.1.size) (fun k hk e => by have := HX.out.2.2.2.1 k e; omega))
    exact ⟨HX.out.2.2.1.1.below hb0 |> fun h => ⟨h, HX.out.2.2.1.2⟩, hp_kept H1.out.1 hk (fun e => by have := HPL.out _ e; omega)⟩)
  clear hbd1
  go_region_held (fun w' => w'.cell? ⟨w.heap.size, 1, none⟩ = some (.string name) ∧ w'.cell? ⟨w.heap.size, 2, none⟩ = some (.string tto) ∧ w'.cell? ⟨w.heap.size, 3, none⟩ = some (.slice a1 data.length q1) ∧ w'.cell? ⟨w.heap.size, 4, none⟩ = some (.int .i64 nn)) (first | exact HCX.out _ H3.out.2 | exact HCX.out _ H2.out.2 | exact HCX.out _ HK1.out) (first
    | (go_at_call 20
       refine (create_dk HPD.out.a HX.out.2.2.2.2.1 (by omega) name hn1).mono ?_
       rintro e w2 ⟨rfl, t2, g2⟩
       rw [← HRES.out]
       have p2 := HPD.out.prog g2
       have hk2 : Kept (Pft d r t R D) w1 w2 := HK1.out.trans p2.kp (fun _ _ e => e)
       obtain ⟨t1', t2', t3', t4'⟩ := HCX.out w2 hk2
       have H2 := hid (And.intro p2 hk2)
       clear g2 p2 hk2)
    | (go_at_call 52
       refine (create_r H2.out.1.pr.b HX.out.2.2.2.2.1 (by omega) HX.out.2.2.2.2.2.1 HX.out.2.2.2.2.2.2.1 name hn1).mono ?_
       rintro e w3 ⟨rfl, R3, g3⟩
       rw [← HRES.out]
       have p3 := H2.out.1.trans (H2.out.1.pr.doc g3)
       have hk3 : Kept (Pft d r t R D) w1 w3 := HK1.out.trans p3.kp (fun _ _ e => e)
       obtain ⟨u1', u2', u3', u4'⟩ := HCX.out w3 hk3
       have H3 := hid (And.intro p3 hk3)
       clear g3 p3 hk3))
  have HS := hid (show PG d r w1 t R D w3 t2 R3 (createP D name).2 (createP D name).2 ∧ Kept (Pft d r t R D) w1 w3 from ⟨⟨H3.out.1.pr, H3.out.2, fun k e => H3.out.1.ft k e⟩, H3.out.2⟩)
  go_wp2_with (
    go_at_call 68
    refine (left_any (.slice a1 data.length q1) data (w.heap.size + 1) w3 (HSD.out w3 H3.out.2).1.1 (by omega) (HSD.out w3 H3.out.2).2).mono ?_
    rintro e w9 ⟨rfl, hdn⟩
    have H9 := hid hdn
    clear hdn)
  go_loopw [16] (fun i wr => ∃ (k : Nat) (bs : List Int), k ≤ data.length + 40 ∧ i = .int .i64 k ∧ bs.length = data.length + 40 ∧ Own wr (w.heap.size + 1) bs ∧ Hid (Kept (fun k => k = w.heap.size + 1) w3 wr)) (fun i _ => data.length + 40 - (intOf i).toNat)
  case atStart =>
    obtain ⟨m, rfl⟩ := H9.out
    exact ⟨0, rm data, Nat.zero_le _, by go_num, by simp [rm], (HSD.out w3 H3.out.2).2, hid ((Kept.refl _ _).drewN m)⟩
  case round =>
    obtain ⟨k, bs, hk9, rfl, hbs, ho9, HK⟩ := hrel
    by_cases hlt : k < data.length + 40
    · have cd := ho9.cell k bs[k] (by simp [hbs, hlt])
      have fz := free_of_block (o := k) ho9
      have i2 : (k : Int) < ((data.length + 40 : Nat) : Int) := by omega
      have i3 : (k : Int) < (data.length : Int) + 40 := by omega
      have HO := hid ho9
      clear ho9
      go_wp2
      go_roundw
      case rel => exact ⟨k + 1, bs.set k 99, by omega, by go_num, by simp [hbs], HO.out.set k 99, hid (HK.out.setCell (p := ⟨w.heap.size + 1, k, none⟩) (fun _ => rfl) _)⟩
      case measure => simp [intOf]; omega
    · have i2 : ¬ (k : Int) < ((data.length + 40 : Nat) : Int) := by omega
      have i3 : ¬ (k : Int) < (data.length : Int) + 40 := by omega
      have HO := hid ho9
      clear ho9
      go_wp2
      go_ret
      obtain ⟨k1, k2, k3⟩ := tk_create HX.out.2.2.2.2.2.1 name
      exact ⟨rfl, t2, R3, (createP D name).2, PG.wipe HX.out.1 H1.out.2.1 HS.out.1 HK.out (by omega) hz1, HX.out.2.2.2.2.1.createP name, k1, by rw [k2]; exact hf1, by rw [k3]; exact hf2⟩

end Go.Proofs.YtlmompdfombgeaaGreat

namespace Go.Proofs.YtlmompdfombgeaaGreat
open Go.RowKit Go.MapKept

set_option maxRecDepth 100000 in
set_option maxHeartbeats 6400000 in
theorem st_Append {w0 w : World} {d r : Nat} {t : Wt} {R : Rt} {D : Dq} {n : Nat} (x : Sp) (p : SPre w0 w d r t R D n x) (hk : x.kind = 2) :
    Calls Tryz.prog 14 #[.pointer (some ⟨d, 0, none⟩), .pointer (some ⟨r, 0, none⟩), .agg #[.int .i64 x.kind, .string x.name, .string x.to, x.dv, .int .i64 x.n, x.sv, x.rv, .int .i64 x.pn, x.fv]] w (SPost w d r t R D n) := by
  obtain ⟨hx, hw0, hlo, hsm, hpr, hwd, hnn, htk, hf1, hf2⟩ := p
  obtain ⟨kind, name, tto, dv, data, nn, sv, gs, rv, gr, pn, fv, pk⟩ := x
  obtain ⟨-, -, hpn, hn1, hn2, hdt, hoct, hfs, -, hfr, -, hpk⟩ := hx
  obtain ⟨m1, m2, m3, m4, m5, m6, m7⟩ := hsm
  obtain ⟨a1, q1, e1, d1, d2⟩ := hdt.shape
  obtain ⟨a2, q2, e2, d3, d4⟩ := hfs.shape
  obtain ⟨a3, q3, e3, d5, d6⟩ := hfr.shape
  obtain ⟨a4, q4, e4, d7, d8⟩ := hpk.1.shape
  dsimp only at e1 e2 e3 e4 hn1 hn2 hk d1 d2 d3 d4 d5 d6 d7 d8 hdt hfs hfr hpk m1 m2 m3 m4 m5 m6 m7 hpn
  subst e1 e2 e3 e4
  dsimp only
  obtain rfl : kind = 2 := hk
  have hdt' : Rf w0 1 (.slice a1 data.length q1) data.length (B8 data) := by
    rw [← flat_u8]
    exact hdt
  have hsl0 := hdt'.sl
  have hw0z := hw0.size
  have hPl := hpr.lt
  have HX := hid (And.intro hpr (And.intro hw0 (And.intro hsl0 (And.intro hlo (And.intro hwd (And.intro htk (And.intro hf1 hf2)))))))
  have HPL := hid hPl
  clear hpr hw0 hsl0 hfs hfr hpk hdt hdt' hoct m7 hlo hwd htk hPl
  have hbx : Below w.heap.size w (w.alloc (.cells #[.int .i64 2, .string name, .string tto, .slice a1 data.length q1, .int .i64 nn, .slice a2 gs.length q2, .slice a3 gr.length q3, .int .i64 pn, .slice a4 pk.length q4] 43)) := (Below.refl _ _).alloc (Nat.le_refl _) _
  have HBX := hid hbx
  clear hbx
  obtain ⟨res, hres⟩ : ∃ res : Int, res = (appP D name data).1 := ⟨_, rfl⟩
  have HRES := hid hres
  clear hres
  go_enter Tryz.func14, Tryz.ntmps14
  go_wp2_with (
    go_at_call 51
    refine (roomy_any (.slice a1 data.length q1) data _ ((HX.out.2.2.1.1.below HX.out.2.1).below HBX.out) (by omega)).mono ?_
    rintro e w1 ⟨rfl, ho1, hb1⟩
    have es := (show (w.alloc (.cells #[.int .i64 2, .string name, .string tto, .slice a1 data.length q1, .int .i64 nn, .slice a2 gs.length q2, .slice a3 gr.length q3, .int .i64 pn, .slice a4 pk.length q4] 43)).heap.size = w.heap.size + 1 from by simp)
    rw [es] at ho1 hb1 ⊢
    have hbw1 : Below w.heap.size w w1 := HBX.out.trans (hb1.mono (by omega))
    have x0 : w1.cell? ⟨w.heap.size, 0, none⟩ = some (.int .i64 2) := (hb1.cell (by simp)).trans (by simp [go_sem])
    have x1 : w1.cell? ⟨w.heap.size, 1, none⟩ = some (.string name) := (hb1.cell (by simp)).trans (by simp [go_sem])
    have x2 : w1.cell? ⟨w.heap.size, 2, none⟩ = some (.string tto) := (hb1.cell (by simp)).trans (by simp [go_sem])
    have x3 : w1.cell? ⟨w.heap.size, 3, none⟩ = some (.slice a1 data.length q1) := (hb1.cell (by simp)).trans (by simp [go_sem])
    have x4 : w1.cell? ⟨w.heap.size, 4, none⟩ = some (.int .i64 nn) := (hb1.cell (by simp)).trans (by simp [go_sem])
    have hz1 : w.heap.size + 1 < w1.heap.size := hp_lt ho1
    have H1 := hid (And.intro ho1 (And.intro hbw1 (HX.out.1.below hbw1)))
    clear ho1 hb1 es hbw1)
  go_wp2_with fail
  have hbd1 : Below w1.heap.size w1 w1.drew := ⟨rfl, rfl, rfl, Nat.le_refl _, fun _ _ => rfl⟩
  have HPD := hid (H1.out.2.2.below hbd1)
  have HCX := hid (show ∀ W, Kept (Pft d r t R D) w1 W → W.cell? ⟨w.heap.size, 1, none⟩ = some (.string name) ∧ W.cell? ⟨w.heap.size, 2, none⟩ = some (.string tto) ∧ W.cell? ⟨w.heap.size, 3, none⟩ = some (.slice a1 data.length q1) ∧ W.cell? ⟨w.heap.size, 4, none⟩ = some (.int .i64 nn) from fun W hk => by
    have hn : ¬ Pft d r t R D w.heap.size := fun e => by have := HPL.out _ e; omega
    exact ⟨hk.cell x1 hn, hk.cell x2 hn, hk.cell x3 hn, hk.cell x4 hn⟩)
  have HK1 := hid (show Kept (Pft d r t R D) w1 w1.drew from (Kept.ofBelow hbd1).mono (fun _ _ e => e.elim))
  have HSD := hid (show ∀ W, Kept (Pft d r t R D) w1 W → Sn W (.slice a1 data.length q1) data ∧ Own W (w.heap.size + 1) (rm data) from fun W hk => by
    have hb0 : Below w0.heap.size w0 W := (HX.out.2.1.trans (H1.out.2.1.mono hw0z)).trans (hk.below (Nat.le_trans hw0z H1.out.2.1.size) (fun k hk e => by have := HX.out.2.2.2.1 k e; omega))
    exact ⟨HX.out.2.2.1.1.below hb0 |> fun h => ⟨h, HX.out.2.2.1.2⟩, hp_kept H1.out.1 hk (fun e => by have := HPL.out _ e; omega)⟩)
  clear hbd1
  go_region_held (fun w' => w'.cell? ⟨w.heap.size, 1, none⟩ = some (.string name) ∧ w'.cell? ⟨w.heap.size, 2, none⟩ = some (.string tto) ∧ w'.cell? ⟨w.heap.size, 3, none⟩ = some (.slice a1 data.length q1) ∧ w'.cell? ⟨w.heap.size, 4, none⟩ = some (.int .i64 nn)) (first | exact HCX.out _ H3.out.2 | exact HCX.out _ H2.out.2 | exact HCX.out _ HK1.out) (first
    | (go_at_call 21
       refine (app_dk HPD.out.a HX.out.2.2.2.2.1 (by omega) name hn1 _ _ data (given_sl (HSD.out _ HK1.out).2) (fun _ k e => by simp only [Value.ownBlock, Option.some.injEq] at e; subst e; intro e2; have := HPL.out d (.inl (.inl rfl)); omega) (by omega)).mono ?_
       rintro e w2 ⟨rfl, t2, g2⟩
       rw [← HRES.out]
       have p2 := HPD.out.prog g2
       have hk2 : Kept (Pft d r t R D) w1 w2 := HK1.out.trans p2.kp (fun _ _ e => e)
       obtain ⟨t1', t2', t3', t4'⟩ := HCX.out w2 hk2
       have H2 := hid (And.intro p2 hk2)
       clear g2 p2 hk2)
    | (go_at_call 53
       refine (app_r H2.out.1.pr.b HX.out.2.2.2.2.1 (by omega) HX.out.2.2.2.2.2.1 HX.out.2.2.2.2.2.2.1 name hn1 _ _ data (HSD.out _ H2.out.2).1 (fun hne k e e2 => by have h1 := sl_low HX.out.2.2.1.1 hne e; have h2 := HX.out.2.2.2.1 k (.inr e2); omega) (by omega)).mono ?_
       rintro e w3 ⟨rfl, R3, g3⟩
       rw [← HRES.out]
       have p3 := H2.out.1.trans (H2.out.1.pr.doc g3)
       have hk3 : Kept (Pft d r t R D) w1 w3 := HK1.out.trans p3.kp (fun _ _ e => e)
       obtain ⟨u1', u2', u3', u4'⟩ := HCX.out w3 hk3
       have H3 := hid (And.intro p3 hk3)
       clear g3 p3 hk3))
  have HS := hid (show PG d r w1 t R D w3 t2 R3 (appP D name data).2 (appP D name data).2 ∧ Kept (Pft d r t R D) w1 w3 from ⟨⟨H3.out.1.pr, H3.out.2, fun k e => H3.out.1.ft k e⟩, H3.out.2⟩)
  go_wp2_with (
    go_at_call 68
    refine (left_any (.slice a1 data.length q1) data (w.heap.size + 1) w3 (HSD.out w3 H3.out.2).1.1 (by omega) (HSD.out w3 H3.out.2).2).mono ?_
    rintro e w9 ⟨rfl, hdn⟩
    have H9 := hid hdn
    clear hdn)
  go_loopw [16] (fun i wr => ∃ (k : Nat) (bs : List Int), k ≤ data.length + 40 ∧ i = .int .i64 k ∧ bs.length = data.length + 40 ∧ Own wr (w.heap.size + 1) bs ∧ Hid (Kept (fun k => k = w.heap.size + 1) w3 wr)) (fun i _ => data.length + 40 - (intOf i).toNat)
  case atStart =>
    obtain ⟨m, rfl⟩ := H9.out
    exact ⟨0, rm data, Nat.zero_le _, by go_num, by simp [rm], (HSD.out w3 H3.out.2).2, hid ((Kept.refl _ _).drewN m)⟩
  case round =>
    obtain ⟨k, bs, hk9, rfl, hbs, ho9, HK⟩ := hrel
    by_cases hlt : k < data.length + 40
    · have cd := ho9.cell k bs[k] (by simp [hbs, hlt])
      have fz := free_of_block (o := k) ho9
      have i2 : (k : Int) < ((data.length + 40 : Nat) : Int) := by omega
      have i3 : (k : Int) < (data.length : Int) + 40 := by omega
      have HO := hid ho9
      clear ho9
      go_wp2
      go_roundw
      case rel => exact ⟨k + 1, bs.set k 99, by omega, by go_num, by simp [hbs], HO.out.set k 99, hid (HK.out.setCell (p := ⟨w.heap.size + 1, k, none⟩) (fun _ => rfl) _)⟩
      case measure => simp [intOf]; omega
    · have i2 : ¬ (k : Int) < ((data.length + 40 : Nat) : Int) := by omega
      have i3 : ¬ (k : Int) < (data.length : Int) + 40 := by omega
      have HO := hid ho9
      clear ho9
      go_wp2
      go_ret
      obtain ⟨k1, k2, k3⟩ := tk_app HX.out.2.2.2.2.2.1 name data
      exact ⟨rfl, t2, R3, (appP D name data).2, PG.wipe HX.out.1 H1.out.2.1 HS.out.1 HK.out (by omega) hz1, HX.out.2.2.2.2.1.appP name data, k1, by rw [k2]; exact hf1, by rw [k3]; exact hf2⟩

end Go.Proofs.YtlmompdfombgeaaGreat

namespace Go.Proofs.YtlmompdfombgeaaGreat
open Go.RowKit Go.MapKept

set_option maxRecDepth 100000 in
set_option maxHeartbeats 6400000 in
theorem st_Cut {w0 w : World} {d r : Nat} {t : Wt} {R : Rt} {D : Dq} {n : Nat} (x : Sp) (p : SPre w0 w d r t R D n x) (hk : x.kind = 3) :
    Calls Tryz.prog 14 #[.pointer (some ⟨d, 0, none⟩), .pointer (some ⟨r, 0, none⟩), .agg #[.int .i64 x.kind, .string x.name, .string x.to, x.dv, .int .i64 x.n, x.sv, x.rv, .int .i64 x.pn, x.fv]] w (SPost w d r t R D n) := by
  obtain ⟨hx, hw0, hlo, hsm, hpr, hwd, hnn, htk, hf1, hf2⟩ := p
  obtain ⟨kind, name, tto, dv, data, nn, sv, gs, rv, gr, pn, fv, pk⟩ := x
  obtain ⟨-, -, hpn, hn1, hn2, hdt, hoct, hfs, -, hfr, -, hpk⟩ := hx
  obtain ⟨m1, m2, m3, m4, m5, m6, m7⟩ := hsm
  obtain ⟨a1, q1, e1, d1, d2⟩ := hdt.shape
  obtain ⟨a2, q2, e2, d3, d4⟩ := hfs.shape
  obtain ⟨a3, q3, e3, d5, d6⟩ := hfr.shape
  obtain ⟨a4, q4, e4, d7, d8⟩ := hpk.1.shape
  dsimp only at e1 e2 e3 e4 hn1 hn2 hk d1 d2 d3 d4 d5 d6 d7 d8 hdt hfs hfr hpk m1 m2 m3 m4 m5 m6 m7 hpn
  subst e1 e2 e3 e4
  dsimp only
  obtain rfl : kind = 3 := hk
  have hdt' : Rf w0 1 (.slice a1 data.length q1) data.length (B8 data) := by
    rw [← flat_u8]
    exact hdt
  have hsl0 := hdt'.sl
  have hw0z := hw0.size
  have hPl := hpr.lt
  have HX := hid (And.intro hpr (And.intro hw0 (And.intro hsl0 (And.intro hlo (And.intro hwd (And.intro htk (And.intro hf1 hf2)))))))
  have HPL := hid hPl
  clear hpr hw0 hsl0 hfs hfr hpk hdt hdt' hoct m7 hlo hwd htk hPl
  have hbx : Below w.heap.size w (w.alloc (.cells #[.int .i64 3, .string name, .string tto, .slice a1 data.length q1, .int .i64 nn, .slice a2 gs.length q2, .slice a3 gr.length q3, .int .i64 pn, .slice a4 pk.length q4] 43)) := (Below.refl _ _).alloc (Nat.le_refl _) _
  have HBX := hid hbx
  clear hbx
  obtain ⟨res, hres⟩ : ∃ res : Int, res = (cutP D name nn).1 := ⟨_, rfl⟩
  have HRES := hid hres
  clear hres
  go_enter Tryz.func14, Tryz.ntmps14
  go_wp2_with (
    go_at_call 51
    refine (roomy_any (.slice a1 data.length q1) data _ ((HX.out.2.2.1.1.below HX.out.2.1).below HBX.out) (by omega)).mono ?_
    rintro e w1 ⟨rfl, ho1, hb1⟩
    have es := (show (w.alloc (.cells #[.int .i64 3, .string name, .string tto, .slice a1 data.length q1, .int .i64 nn, .slice a2 gs.length q2, .slice a3 gr.length q3, .int .i64 pn, .slice a4 pk.length q4] 43)).heap.size = w.heap.size + 1 from by simp)
    rw [es] at ho1 hb1 ⊢
    have hbw1 : Below w.heap.size w w1 := HBX.out.trans (hb1.mono (by omega))
    have x0 : w1.cell? ⟨w.heap.size, 0, none⟩ = some (.int .i64 3) := (hb1.cell (by simp)).trans (by simp [go_sem])
    have x1 : w1.cell? ⟨w.heap.size, 1, none⟩ = some (.string name) := (hb1.cell (by simp)).trans (by simp [go_sem])
    have x2 : w1.cell? ⟨w.heap.size, 2, none⟩ = some (.string tto) := (hb1.cell (by simp)).trans (by simp [go_sem])
    have x3 : w1.cell? ⟨w.heap.size, 3, none⟩ = some (.slice a1 data.length q1) := (hb1.cell (by simp)).trans (by simp [go_sem])
    have x4 : w1.cell? ⟨w.heap.size, 4, none⟩ = some (.int .i64 nn) := (hb1.cell (by simp)).trans (by simp [go_sem])
    have hz1 : w.heap.size + 1 < w1.heap.size := hp_lt ho1
    have H1 := hid (And.intro ho1 (And.intro hbw1 (HX.out.1.below hbw1)))
    clear ho1 hb1 es hbw1)
  go_wp2_with fail
  have hbd1 : Below w1.heap.size w1 w1.drew := ⟨rfl, rfl, rfl, Nat.le_refl _, fun _ _ => rfl⟩
  have HPD := hid (H1.out.2.2.below hbd1)
  have HCX := hid (show ∀ W, Kept (Pft d r t R D) w1 W → W.cell? ⟨w.heap.size, 1, none⟩ = some (.string name) ∧ W.cell? ⟨w.heap.size, 2, none⟩ = some (.string tto) ∧ W.cell? ⟨w.heap.size, 3, none⟩ = some (.slice a1 data.length q1) ∧ W.cell? ⟨w.heap.size, 4, none⟩ = some (.int .i64 nn) from fun W hk => by
    have hn : ¬ Pft d r t R D w.heap.size := fun e => by have := HPL.out _ e; omega
    exact ⟨hk.cell x1 hn, hk.cell x2 hn, hk.cell x3 hn, hk.cell x4 hn⟩)
  have HK1 := hid (show Kept (Pft d r t R D) w1 w1.drew from (Kept.ofBelow hbd1).mono (fun _ _ e => e.elim))
  have HSD := hid (show ∀ W, Kept (Pft d r t R D) w1 W → Sn W (.slice a1 data.length q1) data ∧ Own W (w.heap.size + 1) (rm data) from fun W hk => by
    have hb0 : Below w0.heap.size w0 W := (HX.out.2.1.trans (H1.out.2.1.mono hw0z)).trans (hk.below (Nat.le_trans hw0z H1.out.2.1.size) (fun k hk e => by have := HX.out.2.2.2.1 k e; omega))
    exact ⟨HX.out.2.2.1.1.below hb0 |> fun h => ⟨h, HX.out.2.2.1.2⟩, hp_kept H1.out.1 hk (fun e => by have := HPL.out _ e; omega)⟩)
  clear hbd1
  go_region_held (fun w' => w'.cell? ⟨w.heap.size, 1, none⟩ = some (.string name) ∧ w'.cell? ⟨w.heap.size, 2, none⟩ = some (.string tto) ∧ w'.cell? ⟨w.heap.size, 3, none⟩ = some (.slice a1 data.length q1) ∧ w'.cell? ⟨w.heap.size, 4, none⟩ = some (.int .i64 nn)) (first | exact HCX.out _ H3.out.2 | exact HCX.out _ H2.out.2 | exact HCX.out _ HK1.out) (first
    | (go_at_call 22
       refine (cut_dk HPD.out.a HX.out.2.2.2.2.1 (by omega) name hn1 nn).mono ?_
       rintro e w2 ⟨rfl, t2, g2⟩
       rw [← HRES.out]
       have p2 := HPD.out.prog g2
       have hk2 : Kept (Pft d r t R D) w1 w2 := HK1.out.trans p2.kp (fun _ _ e => e)
       obtain ⟨t1', t2', t3', t4'⟩ := HCX.out w2 hk2
       have H2 := hid (And.intro p2 hk2)
       clear g2 p2 hk2)
    | (go_at_call 54
       refine (cut_r H2.out.1.pr.b HX.out.2.2.2.2.1 (by omega) HX.out.2.2.2.2.2.1 HX.out.2.2.2.2.2.2.1 name hn1 nn).mono ?_
       rintro e w3 ⟨rfl, R3, g3⟩
       rw [← HRES.out]
       have p3 := H2.out.1.trans (H2.out.1.pr.doc g3)
       have hk3 : Kept (Pft d r t R D) w1 w3 := HK1.out.trans p3.kp (fun _ _ e => e)
       obtain ⟨u1', u2', u3', u4'⟩ := HCX.out w3 hk3
       have H3 := hid (And.intro p3 hk3)
       clear g3 p3 hk3))
  have HS := hid (show PG d r w1 t R D w3 t2 R3 (cutP D name nn).2 (cutP D name nn).2 ∧ Kept (Pft d r t R D) w1 w3 from ⟨⟨H3.out.1.pr, H3.out.2, fun k e => H3.out.1.ft k e⟩, H3.out.2⟩)
  go_wp2_with (
    go_at_call 68
    refine (left_any (.slice a1 data.length q1) data (w.heap.size + 1) w3 (HSD.out w3 H3.out.2).1.1 (by omega) (HSD.out w3 H3.out.2).2).mono ?_
    rintro e w9 ⟨rfl, hdn⟩
    have H9 := hid hdn
    clear hdn)
  go_loopw [16] (fun i wr => ∃ (k : Nat) (bs : List Int), k ≤ data.length + 40 ∧ i = .int .i64 k ∧ bs.length = data.length + 40 ∧ Own wr (w.heap.size + 1) bs ∧ Hid (Kept (fun k => k = w.heap.size + 1) w3 wr)) (fun i _ => data.length + 40 - (intOf i).toNat)
  case atStart =>
    obtain ⟨m, rfl⟩ := H9.out
    exact ⟨0, rm data, Nat.zero_le _, by go_num, by simp [rm], (HSD.out w3 H3.out.2).2, hid ((Kept.refl _ _).drewN m)⟩
  case round =>
    obtain ⟨k, bs, hk9, rfl, hbs, ho9, HK⟩ := hrel
    by_cases hlt : k < data.length + 40
    · have cd := ho9.cell k bs[k] (by simp [hbs, hlt])
      have fz := free_of_block (o := k) ho9
      have i2 : (k : Int) < ((data.length + 40 : Nat) : Int) := by omega
      have i3 : (k : Int) < (data.length : Int) + 40 := by omega
      have HO := hid ho9
      clear ho9
      go_wp2
      go_roundw
      case rel => exact ⟨k + 1, bs.set k 99, by omega, by go_num, by simp [hbs], HO.out.set k 99, hid (HK.out.setCell (p := ⟨w.heap.size + 1, k, none⟩) (fun _ => rfl) _)⟩
      case measure => simp [intOf]; omega
    · have i2 : ¬ (k : Int) < ((data.length + 40 : Nat) : Int) := by omega
      have i3 : ¬ (k : Int) < (data.length : Int) + 40 := by omega
      have HO := hid ho9
      clear ho9
      go_wp2
      go_ret
      obtain ⟨k1, k2, k3⟩ := tk_cut HX.out.2.2.2.2.2.1 name nn
      exact ⟨rfl, t2, R3, (cutP D name nn).2, PG.wipe HX.out.1 H1.out.2.1 HS.out.1 HK.out (by omega) hz1, HX.out.2.2.2.2.1.cutP name nn, k1, by rw [k2]; exact hf1, by rw [k3]; exact hf2⟩

end Go.Proofs.YtlmompdfombgeaaGreat
