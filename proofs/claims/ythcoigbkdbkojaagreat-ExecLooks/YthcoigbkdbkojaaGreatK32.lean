import Derived.Test.YthcoigbkdbkojaaGreatK31
namespace Go.Proofs.YthcoigbkdbkojaaGreat
open Go.RowKit Go.MapKept
open V (hp_new hp_lt hp_below hp_alloc kl)

/-- What the law holds: the effect, the state, the other state. -/
structure LS (w : World) (o : Obj) (wx : World) (r r9 r11 : Nat) (st at_ : Int) (td : List Vd) (wl : List (ByteArray × Vd)) (lk : List (ByteArray × ByteArray)) (t1 t2 t3 : Option Addr) (k1 k2 k3 : Nat) (S : KV) (a9 : Option Addr) (c9 : Nat) (T : KV) (a : Option Addr) (c : Nat) : Prop where
  inn : Inn w o wx
  ef : EfB wx r st at_ td wl lk t1 t2 t3 k1 k2 k3
  s9 : wx.heap[r9]? = some (.cells #[.slice a9 S.length c9, .slice none 0 0] 33 (0, 0))
  o9 : wx.ownsRow 0 54 4 (.slice a9 S.length c9) S.length (S.flatMap ecs)
  s11 : wx.heap[r11]? = some (.cells #[.slice a T.length c, .slice none 0 0] 33 (0, 0))
  o11 : wx.ownsRow 0 54 4 (.slice a T.length c) T.length (T.flatMap ecs)
  ne : r9 ≠ r11
  lo : w.heap.size + 1 ≤ r11

section
variable {w wx wy : World} {o : Obj} {r r9 r11 : Nat} {st at_ : Int} {td : List Vd} {wl : List (ByteArray × Vd)} {lk : List (ByteArray × ByteArray)} {t1 t2 t3 : Option Addr} {k1 k2 k3 : Nat} {S : KV} {a9 : Option Addr} {c9 : Nat} {T : KV} {a : Option Addr} {c : Nat}
theorem LS.below (h : LS w o wx r r9 r11 st at_ td wl lk t1 t2 t3 k1 k2 k3 S a9 c9 T a c) (hb : Below wx.heap.size wx wy) : LS w o wy r r9 r11 st at_ td wl lk t1 t2 t3 k1 k2 k3 S a9 c9 T a c :=
  ⟨h.inn.go hb, h.ef.below hb, blk_of hb h.s9 (hp_lt h.s9), ownsRow_kept h.o9 (Kept.ofBelow hb) (fun _ _ e => e), blk_of hb h.s11 (hp_lt h.s11), ownsRow_kept h.o11 (Kept.ofBelow hb) (fun _ _ e => e), h.ne, h.lo⟩

theorem LS.bw (h : LS w o wx r r9 r11 st at_ td wl lk t1 t2 t3 k1 k2 k3 S a9 c9 T a c) : Below w.heap.size w wx := (below1 w o).trans (Below.mono h.inn (Nat.le_succ _))

/-- Another list in the other state. -/
theorem LS.put (h : LS w o wx r r9 r11 st at_ td wl lk t1 t2 t3 k1 k2 k3 S a9 c9 T a c) {T' : KV} {a' : Option Addr} {c' : Nat} {B : Nat} (ho : wx.ownsRow B 54 4 (.slice a' T'.length c') T'.length (T'.flatMap ecs)) :
    LS w o ((wx.setCell ⟨r11, 0, none⟩ (.slice a' T'.length c')).setCell ⟨r11, 1, none⟩ (.slice none 0 0)) r r9 r11 st at_ td wl lk t1 t2 t3 k1 k2 k3 S a9 c9 T' a' c' := by
  have K : Kept (fun k => k = r11) wx ((wx.setCell ⟨r11, 0, none⟩ (.slice a' T'.length c')).setCell ⟨r11, 1, none⟩ (.slice none 0 0)) := ((Kept.refl (fun k => k = r11) wx).setCell (p := ⟨r11, 0, none⟩) (fun _ => rfl) _).setCell (p := ⟨r11, 1, none⟩) (fun _ => rfl) _
  have own : ∀ {B : Nat} {e : TypeId} {m : Nat} {v : Value} {n : Nat} {cs : List Value}, wx.ownsRow B e m v n cs → e ≠ 33 → ((wx.setCell ⟨r11, 0, none⟩ (.slice a' T'.length c')).setCell ⟨r11, 1, none⟩ (.slice none 0 0)).ownsRow B e m v n cs := fun ho he =>
    ownsRow_kept ho K (fun q hq e2 => owns_blk ho (k := r11) (by rw [← e2]; exact hq) h.s11 (fun cs e3 => by injection e3 with _ e3; exact he e3.symm))
  refine ⟨h.inn.trans (K.below h.inn.sz (fun k _ e => by have := h.lo; omega)), ⟨hpk h.ef.bx K (fun e => ?_), own h.ef.o1 (by decide), own h.ef.o2 (by decide), own h.ef.o3 (by decide)⟩, hpk h.s9 K h.ne, own h.o9 (by decide), set2f h.s11 _ _, owns_mono (own ho (by decide)) (Nat.zero_le _), h.ne, h.lo⟩
  have h1 := h.ef.bx
  rw [e, h.s11] at h1
  injection h1 with h1
  injection h1 with _ h1
  cases h1

theorem LS.entry (h : LS w o wx r r9 r11 st at_ td wl lk t1 t2 t3 k1 k2 k3 S a9 c9 T a c) (k : Nat) (hk : k < S.length) : ∃ b off, a9 = some ⟨b, off, none⟩ ∧ S.length ≤ c9 ∧ wx.cell? ⟨b, off + k * 4, none⟩ = some (.string S[k].1) := by
  obtain ⟨b, off, cap, e, h1, -, hc⟩ := Rf.elem (f := ecs) (fun _ => rfl) (by omega) (rf_of_owns h.o9 (ecs_one _)) k hk
  injection e with e1 _ e3
  subst e1 e3
  exact ⟨b, off, rfl, h1, hc 0 _ rfl⟩
end

theorem tmod_even {i : Nat} (h : i % 2 = 0) : Int.tmod (i : Int) 2 = 0 := by
  rw [Int.tmod_eq_emod_of_nonneg (by omega)]
  omega
theorem tmod_odd {i : Nat} (h : ¬ i % 2 = 0) : Int.tmod (i : Int) 2 = 1 := by
  rw [Int.tmod_eq_emod_of_nonneg (by omega)]
  omega

set_option maxRecDepth 100000 in
set_option maxHeartbeats 16000000 in
theorem looks_law (v : Value) (es : List (ByteArray × Vd)) (nm : ByteArray) (ar : Int) (ac : Option Addr) (cc : Nat) (xs : List Ins) (av : Value) (al : List Vd) (ov : Value) (os : List (ByteArray × Vd)) (w : World) (dig : Int → List Int) (S : KV) (st at_ : Int) (td : List Vd) (wl : List (ByteArray × Vd)) (lk : List (ByteArray × ByteArray))
    (h : Rf w 4 v es.length (es.flatMap ecs)) (hc : CodeAt w (.slice ac xs.length cc) xs) (ha : Va w av al) (hos : Rf w 4 ov os.length (os.flatMap ecs)) (hl : xs.length ≤ 1000) (hla : al.length ≤ 1000)
    (hie : ∀ x ∈ es, inR x.2.i = true) (hio : ∀ x ∈ os, inR x.2.i = true) (hi : ∀ x ∈ xs, inR x.i = true) (hv : ∀ x ∈ al, inR x.i = true) (hd : Digs dig w) (hS : S = mdG (es.take 400)) (hf : efR dig S nm ar xs al = ⟨st, at_, td, wl, lk⟩) (hE : EndsOk xs.length ⟨st, at_, td, wl, lk⟩) :
    Calls Tryz.prog 6 #[v, .agg #[.string nm, .int .i64 ar, .slice ac xs.length cc], av, ov] w fun e w' => e = .returned (.bool true) ∧ Below w.heap.size w w' := by
  have hSo : SOk S := by rw [hS]; exact mdG_ok _
  have hSl : S.length ≤ 400 := by rw [hS]; exact mdG_len es 400
  have hSi : ∀ x ∈ S, inR x.2.i = true := fun x hx => by rw [hS] at hx; exact hie x (List.mem_of_mem_take (mdG_mem hx))
  obtain ⟨aa, ca, eav⟩ : ∃ aa ca, av = .slice aa al.length ca := by obtain ⟨aa, ca, e, -⟩ := ha; exact ⟨aa, ca, e⟩
  subst eav
  obtain ⟨oa, oc, rfl, hoc, -⟩ := hos.shape
  have HM := hid (made_own v es (w.alloc (.cells #[.string nm, .int .i64 ar, .slice ac xs.length cc] 25)) (h.below (below1 w _)) S hS)
  have HRUN := hid (fun (W : World) (p : Nat) (T : KV) (hW : Below w.heap.size w W) (hV : VL W p T) (hT : LOk T) (hfT : efR dig T nm ar xs al = ⟨st, at_, td, wl, lk⟩) => run_ef p (.slice aa al.length ca) (.slice ac xs.length cc) nm ar xs al W dig T (hc.below hW) (ha.below hW) hl hla hi hv hV hT (hd.below hW) _ hfT)
  have HAG := hid (fun (T : KV) (hT : Agr S T lk) => (efR_agr (dig := dig) (T := T) (nm := nm) (ar := ar) (hSo.lok hSi) hi hv (by rw [hf]; exact hT)).trans hf)
  have HF := hid (And.intro hf (And.intro (And.intro hSo hSi) (And.intro hos hio)))
  have HKn := hid (fun W => known_any W)
  have HAL := hid (show ∀ W, Inn w (.cells #[.string nm, .int .i64 ar, .slice ac xs.length cc] 25) W → (True ∧ True ∧ W.cell? ⟨w.heap.size, 0, none⟩ = some (.string nm) ∧ W.cell? ⟨w.heap.size, 1, none⟩ = some (.int .i64 ar) ∧ W.cell? ⟨w.heap.size, 2, none⟩ = some (.slice ac xs.length cc)) ∧ True from fun W hb => by
    have g1 := blk_of hb (hp_new w _) (Nat.lt_succ_self _)
    exact ⟨⟨trivial, trivial, by rw [cell_of_row _ _ _ _ _ _ g1]; rfl, by rw [cell_of_row _ _ _ _ _ _ g1]; rfl, by rw [cell_of_row _ _ _ _ _ _ g1]; rfl⟩, trivial⟩)
  have HEE := hid hE
  have l1 : ¬ (1000 : Int) < (xs.length : Int) := by omega
  have l2 : ¬ (1000 : Int) < (al.length : Int) := by omega
  dsimp only at HRUN
  clear h hc ha hos hl hla hie hio hi hv hd hf hSo hSi hE hS
  go_enter Tryz.func6, Tryz.ntmps6
  go_upto_region 4 with (
    go_at_call 9
    refine HM.out.mono ?_
    rintro e w2 ⟨a9, c9, rfl, ho9, hb2⟩
    have HI2 := hid (Inn.go (show Inn w (.cells #[.string nm, .int .i64 ar, .slice ac xs.length cc] 25) (w.alloc (.cells #[.string nm, .int .i64 ar, .slice ac xs.length cc] 25)) from Below.refl _ _) hb2)
    have HO9 := hid ho9
    clear ho9 hb2 HM)
  have HA := hid (show ∀ W, Inn w2 (.cells #[.slice a9 S.length c9, .slice none 0 0] 33) W → (W.cell? ⟨w2.heap.size, 0, none⟩ = some (.slice a9 S.length c9) ∧ W.cell? ⟨w2.heap.size, 1, none⟩ = some (.slice none 0 0) ∧ W.cell? ⟨w.heap.size, 0, none⟩ = some (.string nm) ∧ W.cell? ⟨w.heap.size, 1, none⟩ = some (.int .i64 ar) ∧ W.cell? ⟨w.heap.size, 2, none⟩ = some (.slice ac xs.length cc)) ∧ Below w.heap.size w W ∧ Inn w (.cells #[.string nm, .int .i64 ar, .slice ac xs.length cc] 25) W ∧ Below w2.heap.size w2 W from fun W hb => by
    have g1 := blk_of hb (hp_new w2 _) (Nat.lt_succ_self _)
    have hbb : Below w2.heap.size w2 W := (below1 w2 _).trans (Below.mono hb (Nat.le_succ _))
    have g2 := blk_of hbb (blk_of (show Below (w.heap.size + 1) (w.alloc (.cells #[.string nm, .int .i64 ar, .slice ac xs.length cc] 25)) w2 from HI2.out) (hp_new w _) (Nat.lt_succ_self _)) (Nat.lt_of_lt_of_le (Nat.lt_succ_self _) HI2.out.sz)
    exact ⟨⟨by rw [cell_of_row _ _ _ _ _ _ g1]; rfl, by rw [cell_of_row _ _ _ _ _ _ g1]; rfl, by rw [cell_of_row _ _ _ _ _ _ g2]; rfl, by rw [cell_of_row _ _ _ _ _ _ g2]; rfl, by rw [cell_of_row _ _ _ _ _ _ g2]; rfl⟩, below_on ((below1 w _).trans (Below.mono HI2.out (Nat.le_succ _))) hbb, HI2.out.go hbb, hbb⟩)
  have H0 := hid (show Inn w2 (.cells #[.slice a9 S.length c9, .slice none 0 0] 33) (w2.alloc (.cells #[.slice a9 S.length c9, .slice none 0 0] 33)).drew from (Below.refl _ _).drew)
  have H01 := hid (show Inn w2 (.cells #[.slice a9 S.length c9, .slice none 0 0] 33) ((w2.alloc (.cells #[.slice a9 S.length c9, .slice none 0 0] 33)).alloc (.cells #[.int .i64 0, .int .i64 0, .slice none 0 0, .slice none 0 0, .slice none 0 0] 43)).drew from Below.drew ((show Inn w2 (.cells #[.slice a9 S.length c9, .slice none 0 0] 33) (w2.alloc (.cells #[.slice a9 S.length c9, .slice none 0 0] 33)) from Below.refl _ _).al (.cells #[.int .i64 0, .int .i64 0, .slice none 0 0, .slice none 0 0, .slice none 0 0] 43)))
  have HS0 := hid (store_vl (.slice a9 S.length c9) S (w2.alloc (.cells #[.slice a9 S.length c9, .slice none 0 0] 33)).drew (rf_of_owns (ownsRow_kept HO9.out (Kept.ofBelow (HA.out _ H0.out).2.2.2) (fun _ _ e => e)) (ecs_one _)) (by omega) HF.out.2.1.1)
  have HS1 := hid (store_vl (.slice a9 S.length c9) S ((w2.alloc (.cells #[.slice a9 S.length c9, .slice none 0 0] 33)).alloc (.cells #[.int .i64 0, .int .i64 0, .slice none 0 0, .slice none 0 0, .slice none 0 0] 43)).drew (rf_of_owns (ownsRow_kept HO9.out (Kept.ofBelow (HA.out _ H01.out).2.2.2) (fun _ _ e => e)) (ecs_one _)) (by omega) HF.out.2.1.1)
  go_cut [10] from 26 (fun v10 wc => ∃ (r : Nat) (t1 t2 t3 : Option Addr) (k1 k2 k3 : Nat), v10 = .pointer (some ⟨r, 0, none⟩) ∧ Hid (EfB wc r st at_ td wl lk t1 t2 t3 k1 k2 k3 ∧ Inn w2 (.cells #[.slice a9 S.length c9, .slice none 0 0] 33) wc))
  case first =>
    go_region_held3 (fun W => W.cell? ⟨w2.heap.size, 0, none⟩ = some (.slice a9 S.length c9) ∧ W.cell? ⟨w2.heap.size, 1, none⟩ = some (.slice none 0 0) ∧ W.cell? ⟨w.heap.size, 0, none⟩ = some (.string nm) ∧ W.cell? ⟨w.heap.size, 1, none⟩ = some (.int .i64 ar) ∧ W.cell? ⟨w.heap.size, 2, none⟩ = some (.slice ac xs.length cc))
      (first | with_reducible exact HA9.out | with_reducible exact (HA.out _ H9.out).1 | with_reducible exact (HA.out _ (H9.out.al _)).1 | with_reducible exact (HA.out _ H6.out).1 | with_reducible exact (HA.out _ (H6.out.al _)).1 | with_reducible exact (HA.out _ H0.out).1 | with_reducible exact (HA.out _ H01.out).1)
      (first
      | (go_at_call 10
         with_reducible refine HS0.out.mono ?_
         rintro e w6 ⟨p, rfl, hv6, hb6⟩
         have H6 := hid (H0.out.go hb6)
         have HR1 := hid (HRUN.out w6 p S (HA.out _ H6.out).2.1 hv6 (HF.out.2.1.1.lok HF.out.2.1.2) HF.out.1)
         have HR2 := hid (HRUN.out (w6.alloc (.cells #[.int .i64 0, .int .i64 0, .slice none 0 0, .slice none 0 0, .slice none 0 0] 43)) p S (HA.out _ (H6.out.al (.cells #[.int .i64 0, .int .i64 0, .slice none 0 0, .slice none 0 0, .slice none 0 0] 43))).2.1 (hv6.below (below1 w6 (.cells #[.int .i64 0, .int .i64 0, .slice none 0 0, .slice none 0 0, .slice none 0 0] 43))) (HF.out.2.1.1.lok HF.out.2.1.2) HF.out.1)
         clear hv6 hb6 HS0 HS1)
      | (go_at_call 10
         with_reducible refine HS1.out.mono ?_
         rintro e w6 ⟨p, rfl, hv6, hb6⟩
         have H6 := hid (H01.out.go hb6)
         have HX := hid (show Box w6 w2 (w2.heap.size + 1) from Box.mk1 hb6)
         have HR1 := hid (HRUN.out w6 p S (HA.out _ H6.out).2.1 hv6 (HF.out.2.1.1.lok HF.out.2.1.2) HF.out.1)
         have HR2 := hid (HRUN.out (w6.alloc (.cells #[.int .i64 0, .int .i64 0, .slice none 0 0, .slice none 0 0, .slice none 0 0] 43)) p S (HA.out _ (H6.out.al (.cells #[.int .i64 0, .int .i64 0, .slice none 0 0, .slice none 0 0, .slice none 0 0] 43))).2.1 (hv6.below (below1 w6 (.cells #[.int .i64 0, .int .i64 0, .slice none 0 0, .slice none 0 0, .slice none 0 0] 43))) (HF.out.2.1.1.lok HF.out.2.1.2) HF.out.1)
         clear hv6 hb6 HS0 HS1)
      | (go_at_call 12
         with_reducible refine HR1.out.mono ?_
         rintro e w9 ⟨t1, k1, t2, k2, t3, k3, rfl, hE9, hb9⟩
         have H9 := hid (H6.out.go hb9)
         first | (replace HX := hid (HX.out.go hb9); have HA9 := hid (HA.out _ (H9.out.sets HX.out.2.2 (.int .i64 st) (.int .i64 at_) (.slice t1 td.length k1) (.slice t2 wl.length k2) (.slice t3 lk.length k3))).1; obtain ⟨x0, x1, x2, x3, x4, x5⟩ := cells5f HX.out.1; have hxz := HX.out.2.1) | skip
         have HE9 := hid hE9
         clear hb9 HR1 HR2 hE9)
      | (go_at_call 12
         with_reducible refine HR2.out.mono ?_
         rintro e w9 ⟨t1, k1, t2, k2, t3, k3, rfl, hE9, hb9⟩
         have H9 := hid ((H6.out.al (.cells #[.int .i64 0, .int .i64 0, .slice none 0 0, .slice none 0 0, .slice none 0 0] 43)).go hb9)
         have HX := hid (show Box w9 w2 w6.heap.size from Box.mk2 H6.out hb9)
         have HA9 := hid (HA.out _ (H9.out.sets HX.out.2.2 (.int .i64 st) (.int .i64 at_) (.slice t1 td.length k1) (.slice t2 wl.length k2) (.slice t3 lk.length k3))).1
         obtain ⟨x0, x1, x2, x3, x4, x5⟩ := cells5f HX.out.1
         have hxz := HX.out.2.1
         have HE9 := hid hE9
         clear hb9 HR1 HR2 hE9))
    all_goals
      first
      | (refine cut43 HX.out.1 ?_
         intro W hW hK
         have hIW : Inn w2 (.cells #[.slice a9 S.length c9, .slice none 0 0] 33) W := Below.trans H9.out (hK.below (Inn.sz H9.out) (fun k hk e => by have h1 := HX.out.2.2; omega))
         have hEB := HE9.out.into HX.out.1 hW hK
         clear hW hK)
      | (refine cutG (fun W => EfB W w9.heap.size st at_ td wl lk t1 t2 t3 k1 k2 k3 ∧ Inn w2 (.cells #[.slice a9 S.length c9, .slice none 0 0] 33) W) ⟨HE9.out.new, H9.out.al _⟩ ?_
         rintro W ⟨hEB, hIW⟩)
      go_wp2_with fail
      go_meet
      case rel => exact ⟨_, _, _, _, _, _, _, rfl, hid ⟨hEB, hIW⟩⟩
  case rest =>
    obtain ⟨r, t1, t2, t3, k1, k2, k3, rfl, HC⟩ := hcut
    rename World => W
    obtain ⟨hEB, hIW⟩ := HC.out
    obtain ⟨⟨p0, p1, -⟩, -, hIw, hb2W⟩ := HA.out W hIW
    have hz0 := World.block_lt_of_cell? _ _ p0
    dsimp only at hz0
    have hLS0 : LS w (.cells #[.string nm, .int .i64 ar, .slice ac xs.length cc] 25) (W.alloc (.cells #[.slice a9 S.length c9, .slice none 0 0] 33)) r w2.heap.size W.heap.size st at_ td wl lk t1 t2 t3 k1 k2 k3 S a9 c9 S a9 c9 :=
      ⟨hIw.al _, hEB.below (below1 W _), hp_alloc (blk_of hIW (hp_new w2 _) (Nat.lt_succ_self _)) _, ownsRow_kept HO9.out (Kept.ofBelow (below_on hb2W (below1 W _))) (fun _ _ e => e), hp_new W _, ownsRow_kept HO9.out (Kept.ofBelow (below_on hb2W (below1 W _))) (fun _ _ e => e), by omega, hIw.sz⟩
    have HL0 := hid (And.intro hLS0 (oth0 (lk := lk) HF.out.2.1.1 HF.out.2.1.2))
    have hrz := hp_lt hEB.bx
    clear HC hEB hIW hIw hb2W hLS0 HS0 HS1 H0 H01 HA HI2 HO9
    go_upto_region 6 with fail
    go_wp2_with fail
    go_loopw [12] (fun ix wr => ∃ (k : Nat) (T : KV) (a : Option Addr) (c : Nat), k ≤ os.length ∧ k ≤ 400 ∧ ix = .int .i64 k ∧ Hid (LS w (.cells #[.string nm, .int .i64 ar, .slice ac xs.length cc] 25) wr r w2.heap.size W.heap.size st at_ td wl lk t1 t2 t3 k1 k2 k3 S a9 c9 T a c ∧ Oth S lk T (S.length + k))) (fun ix _ => os.length - (intOf ix).toNat)
    case atStart => exact ⟨0, S, a9, c9, Nat.zero_le _, by omega, by go_num, HL0⟩
    case round =>
      obtain ⟨k, T, a, c, hk, hk4, rfl, HL⟩ := hrel
      obtain ⟨r0, r1, r2, r3, r4, r5⟩ := cells5f HL.out.1.ef.bx
      by_cases hlt : k < os.length ∧ k < 400
      · obtain ⟨hlt, hlt4⟩ := hlt
        have i1 : (k : Int) < (os.length : Int) := by omega
        have i2 : (k : Int) < 400 := by omega
        obtain ⟨bb, off, cap', e, -, -, hcell⟩ := Rf.elem (f := ecs) (fun _ => rfl) (by omega) (HF.out.2.2.1.below HL.out.1.bw) k hlt
        injection e with e1 e2 e3
        subst e1 e3
        clear e2
        have hir := HF.out.2.2.2 os[k] (List.getElem_mem hlt)
        obtain ⟨y, hy⟩ : ∃ y, y = os[k] := ⟨_, rfl⟩
        rw [← hy] at hcell hir
        clear hy
        obtain ⟨yk, ykk, yki, ykt⟩ := y
        have c0 : wr.cell? ⟨bb, off + k * 4, none⟩ = some (.string yk) := hcell 0 _ rfl
        have c1 : wr.cell? ⟨bb, off + k * 4 + 1, none⟩ = some (.int .i64 ykk) := hcell 1 _ rfl
        have c2 : wr.cell? ⟨bb, off + k * 4 + 2, none⟩ = some (.int .i64 yki) := hcell 2 _ rfl
        have c3 : wr.cell? ⟨bb, off + k * 4 + 3, none⟩ = some (.string ykt) := hcell 3 _ rfl
        have hbz := World.block_lt_of_cell? _ _ c0
        dsimp only at hbz
        have HC1 := hid (fun W => riskey_any yk W)
        have HC2 := hid (fun W => rcheck_any ykk yki ykt W)
        have hbx : Below wr.heap.size wr (wr.alloc (.cells (eca (yk, ⟨ykk, yki, ykt⟩)) 54)) := below1 wr _
        have HBX := hid (And.intro hbx (hp_new wr (.cells (eca (yk, ⟨ykk, yki, ykt⟩)) 54)))
        have HIR := hid hir
        clear hcell hir hbx
        cases hk1 : isKeyB yk
        · rw [hk1] at HC1
          go_wp2_with (first
            | (go_at_call 19
               refine (HC1.out _).mono ?_
               rintro e w' ⟨rfl, e1⟩
               rw [e1]
               clear e1 w'))
          go_roundw
          case rel => exact ⟨k + 1, T, a, c, by omega, by omega, by go_num, hid ⟨HL.out.1.below HBX.out.1, HL.out.2.up (by omega)⟩⟩
          case measure => simp [intOf]; omega
        rw [hk1] at HC1
        by_cases hk2 : chk ykk yki ykt = 0
        rotate_left
        · obtain ⟨ce, hce⟩ : ∃ ce, ce = chk ykk yki ykt := ⟨_, rfl⟩
          rw [← hce] at HC2 hk2
          have hce0 : (ce == 0) = false := by simpa using hk2
          clear hce
          go_wp2_with (first
            | (go_at_call 19
               refine (HC1.out _).mono ?_
               rintro e w' ⟨rfl, e1⟩
               rw [e1]
               clear e1 w')
            | (go_at_call 20
               refine (HC2.out _).mono ?_
               rintro e w3 ⟨rfl, hb3⟩
               have H3 := hid (below_on HBX.out.1 hb3)
               clear hb3))
          go_roundw
          case rel => exact ⟨k + 1, T, a, c, by omega, by omega, by go_num, hid ⟨HL.out.1.below H3.out, HL.out.2.up (by omega)⟩⟩
          case measure => simp [intOf]; omega
        have hgood : goodE (yk, ⟨ykk, yki, ykt⟩) = true := by simp [goodE, hk1, hk2]
        rw [hk2] at HC2
        have HGD := hid hgood
        have HWI := hid (fun (W : World) (hW : Below wr.heap.size wr W) => within_look yk (.slice t3 lk.length k3) lk W (by have := HEE.out.lkl; dsimp only at this; omega) ((rf_of_owns HL.out.1.ef.o3 (lcs_one _)).below hW))
        clear hgood hk2
        cases hwb : wB yk lk
        · rw [hwb] at HWI
          have HWB := hid hwb
          clear hwb
          go_upto_region 11 with (first
            | (go_at_call 19
               refine (HC1.out _).mono ?_
               rintro e w' ⟨rfl, e1⟩
               rw [e1]
               clear e1 w')
            | (go_at_call 20
               refine (HC2.out _).mono ?_
               rintro e w3 ⟨rfl, hb3⟩
               have hb4 := below_on HBX.out.1 hb3
               have g1 := blk_of hb3 HBX.out.2 (hp_lt HBX.out.2)
               obtain ⟨y0, y1, y2, y3⟩ := cells4f g1
               obtain ⟨q0, q1, q2, q3, q4, q5⟩ := cells5f (HL.out.1.ef.below hb4).bx
               have H3 := hid (And.intro hb4 g1)
               clear hb3 hb4 g1)
            | (go_at_call 21
               refine (HWI.out _ H3.out.1).mono ?_
               rintro e w4 ⟨rfl, hb4⟩
               have g1 := blk_of hb4 H3.out.2 (hp_lt H3.out.2)
               obtain ⟨z0, z1, z2, z3⟩ := cells4f g1
               have hL4 := HL.out.1.below (below_on H3.out.1 hb4)
               obtain ⟨n0, n1, n2⟩ := cells2f hL4.s11
               have hnz := hp_lt hL4.s11
               have H4 := hid hL4
               clear hb4 g1 hL4))
          have HP := hid (rput_all (.slice a T.length c) none 0 0 (yk, ⟨ykk, yki, ykt⟩) T w4 (rf_of_owns H4.out.o11 (ecs_one _)) (by have := HL.out.2.len; omega))
          go_wp2_with (
            go_at_call 18
            refine HP.out.mono ?_
            rintro e w5 ⟨a5, c5, rfl, ho5, hb5⟩
            have hL5 := H4.out.below hb5
            obtain ⟨m0, m1, m2⟩ := cells2f hL5.s11
            have hmz := hp_lt hL5.s11
            have H5 := hid (And.intro hL5 ho5)
            clear hL5 ho5 hb5)
          go_roundw
          case rel => exact ⟨k + 1, putG (yk, ⟨ykk, yki, ykt⟩) T, a5, c5, by omega, by omega, by go_num, hid ⟨H5.out.1.put H5.out.2, HL.out.2.put HGD.out HIR.out HWB.out⟩⟩
          case measure => simp [intOf]; omega
        · rw [hwb] at HWI
          clear hwb
          go_wp2_with (first
            | (go_at_call 19
               refine (HC1.out _).mono ?_
               rintro e w' ⟨rfl, e1⟩
               rw [e1]
               clear e1 w')
            | (go_at_call 20
               refine (HC2.out _).mono ?_
               rintro e w3 ⟨rfl, hb3⟩
               have hb4 := below_on HBX.out.1 hb3
               have g1 := blk_of hb3 HBX.out.2 (hp_lt HBX.out.2)
               obtain ⟨y0, y1, y2, y3⟩ := cells4f g1
               obtain ⟨q0, q1, q2, q3, q4, q5⟩ := cells5f (HL.out.1.ef.below hb4).bx
               have H3 := hid (And.intro hb4 g1)
               clear hb3 hb4 g1)
            | (go_at_call 21
               refine (HWI.out _ H3.out.1).mono ?_
               rintro e w4 ⟨rfl, hb4⟩
               have H4 := hid (below_on H3.out.1 hb4)
               clear hb4))
          go_roundw
          case rel => exact ⟨k + 1, T, a, c, by omega, by omega, by go_num, hid ⟨HL.out.1.below H4.out, HL.out.2.up (by omega)⟩⟩
          case measure => simp [intOf]; omega
      · have HL2 := hid (And.intro HL.out.1 (HL.out.2.up (show S.length + k ≤ 800 by omega)))
        clear r0 r1 r2 r3 r4 r5
        by_cases hc1 : k < os.length
        · have i1 : (k : Int) < (os.length : Int) := by omega
          have i2 : ¬ (k : Int) < 400 := by omega
          obtain ⟨m9, m9b, m9c⟩ := cells2f HL2.out.1.s9
          have hz9 := hp_lt HL2.out.1.s9
          go_wp2_with fail
          clear i1 m9 m9b m9c hz9
          go_loopw [14] (fun ix wr => ∃ (i : Nat) (T : KV) (a : Option Addr) (c : Nat), i ≤ S.length ∧ ix = .int .i64 i ∧ Hid (LS w (.cells #[.string nm, .int .i64 ar, .slice ac xs.length cc] 25) wr r w2.heap.size W.heap.size st at_ td wl lk t1 t2 t3 k1 k2 k3 S a9 c9 T a c ∧ Oth S lk T 800)) (fun ix _ => S.length - (intOf ix).toNat)
          case atStart => exact ⟨0, T, a, c, Nat.zero_le _, by go_num, HL2⟩
          case round =>
            obtain ⟨i, T, a, c, hi, rfl, HL⟩ := hrel
            obtain ⟨r0, r1, r2, r3, r4, r5⟩ := cells5f HL.out.1.ef.bx
            obtain ⟨m0, m1, m2⟩ := cells2f HL.out.1.s9
            obtain ⟨n0, n1, n2⟩ := cells2f HL.out.1.s11
            have hrz := hp_lt HL.out.1.ef.bx
            have hmz := hp_lt HL.out.1.s9
            have hnz := hp_lt HL.out.1.s11
            by_cases hlt : i < S.length
            · have i1 : (i : Int) < (S.length : Int) := by omega
              have i3 : i < 400 := by omega
              obtain ⟨bb, off, e2, hcap, c0⟩ := HL.out.1.entry i hlt
              subst e2
              obtain ⟨key, hkey⟩ : ∃ key, key = S[i].1 := ⟨_, rfl⟩
              rw [← hkey] at c0
              have hbz := World.block_lt_of_cell? _ _ c0
              dsimp only at hbz
              clear hkey
              have HI := hid (And.intro hlt hi)
              by_cases h2 : i % 2 = 0
              · have tm2 := tmod_even h2
                have tm3 : (i : Int) % 2 = 0 := by omega
                have HWI := hid (fun (W : World) (hW : Below wr.heap.size wr W) => within_look key (.slice t3 lk.length k3) lk W (by have := HEE.out.lkl; dsimp only at this; omega) ((rf_of_owns HL.out.1.ef.o3 (lcs_one _)).below hW))
                have HSW := hid (show ∀ wx : World, Below wr.heap.size wr wx → wx.cell? ⟨w2.heap.size, 0, none⟩ = some (.slice (some ⟨bb, off, none⟩) S.length c9) ∧ wx.cell? ⟨bb, off + i * 4, none⟩ = some (.string key) ∧ wx.cell? ⟨r, 4, none⟩ = some (.slice t3 lk.length k3) from fun wx hb => ⟨(hb.cell hmz).trans m0, (hb.cell hbz).trans c0, (hb.cell hrz).trans r4⟩)
                clear h2 hi hlt
                cases hwb : wB key lk
                · rw [hwb] at HWI
                  have HWB := hid hwb
                  clear hwb
                  go_upto_region 15 with fail
                  go_region_held3 (fun wx => wx.cell? ⟨w2.heap.size, 0, none⟩ = some (.slice (some ⟨bb, off, none⟩) S.length c9) ∧ wx.cell? ⟨bb, off + i * 4, none⟩ = some (.string key) ∧ wx.cell? ⟨r, 4, none⟩ = some (.slice t3 lk.length k3))
                    (first | exact HSW.out _ H3.out | exact HSW.out _ ((Below.refl _ _).drew) | exact HSW.out _ (Below.refl _ _))
                    (first
                    | (go_at_call 21
                       refine (HWI.out _ ((Below.refl _ _).drew)).mono ?_
                       rintro e w3 ⟨rfl, hb3⟩
                       have H3 := hid (show Below wr.heap.size wr w3 from below_on ((Below.refl _ _).drew) hb3)
                       clear hb3))
                  clear r0 r1 r2 r3 r4 r5 m0 m1 m2 n0 n1 n2 hrz hmz hnz c0 hbz
                  have hL3 := HL.out.1.below H3.out
                  obtain ⟨m0, m1, m2⟩ := cells2f hL3.s9
                  obtain ⟨n0, n1, n2⟩ := cells2f hL3.s11
                  have hmz := hp_lt hL3.s9
                  have hnz := hp_lt hL3.s11
                  obtain ⟨-, c0, -⟩ := HSW.out w3 H3.out
                  have hbz := World.block_lt_of_cell? _ _ c0
                  dsimp only at hbz
                  have HP := hid (rput_all (.slice a T.length c) none 0 0 (key, ⟨0, 0, emp⟩) T w3.drew (rf_of_owns (ownsRow_kept hL3.o11 (Kept.ofBelow ((Below.refl _ w3).drew)) (fun _ _ e => e)) (ecs_one _)) (by have := HL.out.2.len; omega))
                  have HL3 := hid hL3
                  clear hL3
                  go_upto_region 16 with fail
                  go_region_with (go_at_call 18; refine HP.out.mono ?_; rintro e w5 ⟨a5, c5, rfl, ho5, hb5⟩; have hL5 := HL3.out.below (show Below w3.heap.size w3 w5 from below_on ((Below.refl _ _).drew) hb5); obtain ⟨s0, s1, s2⟩ := cells2f hL5.s11; have hsz := hp_lt hL5.s11; have H5 := hid (And.intro hL5 ho5); clear hL5 ho5 hb5)
                  all_goals
                    go_wp2_with fail
                    go_roundw
                    case rel => first | exact ⟨i + 1, putG (key, ⟨0, 0, emp⟩) T, a5, c5, by have := HI.out.1; omega, by go_num, hid ⟨H5.out.1.put H5.out.2, HL.out.2.rm HWB.out⟩⟩ | ((repeat apply Exists.intro); exact ⟨⟨i + 1, putG (key, ⟨0, 0, emp⟩) T, a5, c5, by have := HI.out.1; omega, by go_num, hid ⟨H5.out.1.put H5.out.2, HL.out.2.rm HWB.out⟩⟩, rfl⟩)
                    case measure => have := HI.out.1; simp [intOf]; omega
                · rw [hwb] at HWI
                  clear hwb
                  go_upto_region 15 with fail
                  go_region_held3 (fun wx => wx.cell? ⟨w2.heap.size, 0, none⟩ = some (.slice (some ⟨bb, off, none⟩) S.length c9) ∧ wx.cell? ⟨bb, off + i * 4, none⟩ = some (.string key) ∧ wx.cell? ⟨r, 4, none⟩ = some (.slice t3 lk.length k3))
                    (first | exact HSW.out _ H3.out | exact HSW.out _ ((Below.refl _ _).drew) | exact HSW.out _ (Below.refl _ _))
                    (first
                    | (go_at_call 21
                       refine (HWI.out _ ((Below.refl _ _).drew)).mono ?_
                       rintro e w3 ⟨rfl, hb3⟩
                       have H3 := hid (show Below wr.heap.size wr w3 from below_on ((Below.refl _ _).drew) hb3)
                       clear hb3))
                  go_wp2_with fail
                  go_roundw
                  case rel => exact ⟨i + 1, T, a, c, by have := HI.out.1; omega, by go_num, hid ⟨HL.out.1.below H3.out, HL.out.2⟩⟩
                  case measure => have := HI.out.1; simp [intOf]; omega
              · have tm2 := tmod_odd h2
                have tm3 : (i : Int) % 2 = 1 := by omega
                clear h2 hi hlt
                go_upto_region 15 with fail
                go_region
                all_goals
                  go_wp2_with fail
                  go_roundw
                  case rel => exact ⟨i + 1, T, a, c, by have := HI.out.1; omega, by go_num, hid ⟨HL.out.1.below ((Below.refl _ _).drew), HL.out.2⟩⟩
                  case measure => have := HI.out.1; simp [intOf]; omega
            · obtain rfl : S.length = i := by omega
              have i1 : ¬ (S.length : Int) < (S.length : Int) := by omega
              have HT := hid (HAG.out T HL.out.2.ag)
              have HTL := hid (HL.out.2.ok.lok HL.out.2.ir)
              have HST := hid (store_vl (.slice a T.length c) T wr.drew (rf_of_owns (ownsRow_kept HL.out.1.o11 (Kept.ofBelow ((Below.refl _ wr).drew)) (fun _ _ e => e)) (ecs_one _)) (by have := HL.out.2.len; omega) HL.out.2.ok)
              have hbw := HL.out.1.bw
              obtain ⟨⟨-, -, p0, p1, p2⟩, -⟩ := HAL.out wr HL.out.1.inn
              have hpz := World.block_lt_of_cell? _ _ p0
              dsimp only at hpz
              have HSW := hid (show ∀ wx : World, Below wr.heap.size wr wx → wx.cell? ⟨W.heap.size, 0, none⟩ = some (.slice a T.length c) ∧ wx.cell? ⟨W.heap.size, 1, none⟩ = some (.slice none 0 0) ∧ wx.cell? ⟨w.heap.size, 0, none⟩ = some (.string nm) ∧ wx.cell? ⟨w.heap.size, 1, none⟩ = some (.int .i64 ar) ∧ wx.cell? ⟨w.heap.size, 2, none⟩ = some (.slice ac xs.length cc) ∧ wx.cell? ⟨r, 0, none⟩ = some (.int .i64 st) ∧ wx.cell? ⟨r, 1, none⟩ = some (.int .i64 at_) ∧ wx.cell? ⟨r, 2, none⟩ = some (.slice t1 td.length k1) ∧ wx.cell? ⟨r, 3, none⟩ = some (.slice t2 wl.length k2) ∧ wx.cell? ⟨r, 4, none⟩ = some (.slice t3 lk.length k3) from fun wx hb => ⟨(hb.cell hnz).trans n0, (hb.cell hnz).trans n1, (hb.cell hpz).trans p0, (hb.cell hpz).trans p1, (hb.cell hpz).trans p2, (hb.cell hrz).trans r0, (hb.cell hrz).trans r1, (hb.cell hrz).trans r2, (hb.cell hrz).trans r3, (hb.cell hrz).trans r4⟩)
              have HBW := hid hbw
              clear hbw
              go_upto_region 17 with fail
              go_region_held3 (fun wx => wx.cell? ⟨W.heap.size, 0, none⟩ = some (.slice a T.length c) ∧ wx.cell? ⟨W.heap.size, 1, none⟩ = some (.slice none 0 0) ∧ wx.cell? ⟨w.heap.size, 0, none⟩ = some (.string nm) ∧ wx.cell? ⟨w.heap.size, 1, none⟩ = some (.int .i64 ar) ∧ wx.cell? ⟨w.heap.size, 2, none⟩ = some (.slice ac xs.length cc) ∧ wx.cell? ⟨r, 0, none⟩ = some (.int .i64 st) ∧ wx.cell? ⟨r, 1, none⟩ = some (.int .i64 at_) ∧ wx.cell? ⟨r, 2, none⟩ = some (.slice t1 td.length k1) ∧ wx.cell? ⟨r, 3, none⟩ = some (.slice t2 wl.length k2) ∧ wx.cell? ⟨r, 4, none⟩ = some (.slice t3 lk.length k3))
                (first | with_reducible exact HSW.out _ H8.out | with_reducible exact HSW.out _ H7.out | with_reducible exact HSW.out _ H6.out | with_reducible exact HSW.out _ H5.out | exact HSW.out _ ((Below.refl _ _).drew))
                (first
                | (go_at_call 10
                   refine HST.out.mono ?_
                   rintro e w5 ⟨p, rfl, hv5, hb5⟩
                   have H5 := hid (show Below wr.heap.size wr w5 from below_on ((Below.refl _ _).drew) hb5)
                   have HR := hid (HRUN.out w5 p T (below_on HBW.out H5.out) hv5 HTL.out HT.out)
                   clear hv5 hb5 HST)
                | (go_at_call 12
                   refine HR.out.mono ?_
                   rintro e w6 ⟨u1, j1, u2, j2, u3, j3, rfl, hE6, hb6⟩
                   have H6 := hid (below_on H5.out hb6)
                   have hle := HL.out.1.ef.below (below_on H5.out hb6)
                   have HSM := hid (same_any st at_ u1 u2 u3 t1 t2 t3 j1 j2 j3 k1 k2 k3 td wl lk w6 HEE.out.tdl HEE.out.wrl HEE.out.lkl hE6 ⟨hle.o1, hle.o2, hle.o3⟩)
                   clear hE6 hb6 hle HR)
                | (go_at_call 14
                   refine HSM.out.mono ?_
                   rintro e w7 ⟨rfl, hb7⟩
                   have H7 := hid (below_on H6.out hb7)
                   clear hb7 HSM)
                | (go_at_call 17
                   refine (HKn.out _).mono ?_
                   rintro e w8 ⟨rfl, hb8⟩
                   have H8 := hid (below_on H7.out hb8)
                   clear hb8))
              go_wp2_with fail
              go_ret
              exact ⟨rfl, below_on HBW.out H8.out⟩
        · have i1 : ¬ (k : Int) < (os.length : Int) := by omega
          obtain ⟨m9, m9b, m9c⟩ := cells2f HL2.out.1.s9
          have hz9 := hp_lt HL2.out.1.s9
          go_wp2_with fail
          clear i1 m9 m9b m9c hz9
          go_loopw [14] (fun ix wr => ∃ (i : Nat) (T : KV) (a : Option Addr) (c : Nat), i ≤ S.length ∧ ix = .int .i64 i ∧ Hid (LS w (.cells #[.string nm, .int .i64 ar, .slice ac xs.length cc] 25) wr r w2.heap.size W.heap.size st at_ td wl lk t1 t2 t3 k1 k2 k3 S a9 c9 T a c ∧ Oth S lk T 800)) (fun ix _ => S.length - (intOf ix).toNat)
          case atStart => exact ⟨0, T, a, c, Nat.zero_le _, by go_num, HL2⟩
          case round =>
            obtain ⟨i, T, a, c, hi, rfl, HL⟩ := hrel
            obtain ⟨r0, r1, r2, r3, r4, r5⟩ := cells5f HL.out.1.ef.bx
            obtain ⟨m0, m1, m2⟩ := cells2f HL.out.1.s9
            obtain ⟨n0, n1, n2⟩ := cells2f HL.out.1.s11
            have hrz := hp_lt HL.out.1.ef.bx
            have hmz := hp_lt HL.out.1.s9
            have hnz := hp_lt HL.out.1.s11
            by_cases hlt : i < S.length
            · have i1 : (i : Int) < (S.length : Int) := by omega
              have i3 : i < 400 := by omega
              obtain ⟨bb, off, e2, hcap, c0⟩ := HL.out.1.entry i hlt
              subst e2
              obtain ⟨key, hkey⟩ : ∃ key, key = S[i].1 := ⟨_, rfl⟩
              rw [← hkey] at c0
              have hbz := World.block_lt_of_cell? _ _ c0
              dsimp only at hbz
              clear hkey
              have HI := hid (And.intro hlt hi)
              by_cases h2 : i % 2 = 0
              · have tm2 := tmod_even h2
                have tm3 : (i : Int) % 2 = 0 := by omega
                have HWI := hid (fun (W : World) (hW : Below wr.heap.size wr W) => within_look key (.slice t3 lk.length k3) lk W (by have := HEE.out.lkl; dsimp only at this; omega) ((rf_of_owns HL.out.1.ef.o3 (lcs_one _)).below hW))
                have HSW := hid (show ∀ wx : World, Below wr.heap.size wr wx → wx.cell? ⟨w2.heap.size, 0, none⟩ = some (.slice (some ⟨bb, off, none⟩) S.length c9) ∧ wx.cell? ⟨bb, off + i * 4, none⟩ = some (.string key) ∧ wx.cell? ⟨r, 4, none⟩ = some (.slice t3 lk.length k3) from fun wx hb => ⟨(hb.cell hmz).trans m0, (hb.cell hbz).trans c0, (hb.cell hrz).trans r4⟩)
                clear h2 hi hlt
                cases hwb : wB key lk
                · rw [hwb] at HWI
                  have HWB := hid hwb
                  clear hwb
                  go_upto_region 15 with fail
                  go_region_held3 (fun wx => wx.cell? ⟨w2.heap.size, 0, none⟩ = some (.slice (some ⟨bb, off, none⟩) S.length c9) ∧ wx.cell? ⟨bb, off + i * 4, none⟩ = some (.string key) ∧ wx.cell? ⟨r, 4, none⟩ = some (.slice t3 lk.length k3))
                    (first | exact HSW.out _ H3.out | exact HSW.out _ ((Below.refl _ _).drew) | exact HSW.out _ (Below.refl _ _))
                    (first
                    | (go_at_call 21
                       refine (HWI.out _ ((Below.refl _ _).drew)).mono ?_
                       rintro e w3 ⟨rfl, hb3⟩
                       have H3 := hid (show Below wr.heap.size wr w3 from below_on ((Below.refl _ _).drew) hb3)
                       clear hb3))
                  clear r0 r1 r2 r3 r4 r5 m0 m1 m2 n0 n1 n2 hrz hmz hnz c0 hbz
                  have hL3 := HL.out.1.below H3.out
                  obtain ⟨m0, m1, m2⟩ := cells2f hL3.s9
                  obtain ⟨n0, n1, n2⟩ := cells2f hL3.s11
                  have hmz := hp_lt hL3.s9
                  have hnz := hp_lt hL3.s11
                  obtain ⟨-, c0, -⟩ := HSW.out w3 H3.out
                  have hbz := World.block_lt_of_cell? _ _ c0
                  dsimp only at hbz
                  have HP := hid (rput_all (.slice a T.length c) none 0 0 (key, ⟨0, 0, emp⟩) T w3.drew (rf_of_owns (ownsRow_kept hL3.o11 (Kept.ofBelow ((Below.refl _ w3).drew)) (fun _ _ e => e)) (ecs_one _)) (by have := HL.out.2.len; omega))
                  have HL3 := hid hL3
                  clear hL3
                  go_upto_region 16 with fail
                  go_region_with (go_at_call 18; refine HP.out.mono ?_; rintro e w5 ⟨a5, c5, rfl, ho5, hb5⟩; have hL5 := HL3.out.below (show Below w3.heap.size w3 w5 from below_on ((Below.refl _ _).drew) hb5); obtain ⟨s0, s1, s2⟩ := cells2f hL5.s11; have hsz := hp_lt hL5.s11; have H5 := hid (And.intro hL5 ho5); clear hL5 ho5 hb5)
                  all_goals
                    go_wp2_with fail
                    go_roundw
                    case rel => first | exact ⟨i + 1, putG (key, ⟨0, 0, emp⟩) T, a5, c5, by have := HI.out.1; omega, by go_num, hid ⟨H5.out.1.put H5.out.2, HL.out.2.rm HWB.out⟩⟩ | ((repeat apply Exists.intro); exact ⟨⟨i + 1, putG (key, ⟨0, 0, emp⟩) T, a5, c5, by have := HI.out.1; omega, by go_num, hid ⟨H5.out.1.put H5.out.2, HL.out.2.rm HWB.out⟩⟩, rfl⟩)
                    case measure => have := HI.out.1; simp [intOf]; omega
                · rw [hwb] at HWI
                  clear hwb
                  go_upto_region 15 with fail
                  go_region_held3 (fun wx => wx.cell? ⟨w2.heap.size, 0, none⟩ = some (.slice (some ⟨bb, off, none⟩) S.length c9) ∧ wx.cell? ⟨bb, off + i * 4, none⟩ = some (.string key) ∧ wx.cell? ⟨r, 4, none⟩ = some (.slice t3 lk.length k3))
                    (first | exact HSW.out _ H3.out | exact HSW.out _ ((Below.refl _ _).drew) | exact HSW.out _ (Below.refl _ _))
                    (first
                    | (go_at_call 21
                       refine (HWI.out _ ((Below.refl _ _).drew)).mono ?_
                       rintro e w3 ⟨rfl, hb3⟩
                       have H3 := hid (show Below wr.heap.size wr w3 from below_on ((Below.refl _ _).drew) hb3)
                       clear hb3))
                  go_wp2_with fail
                  go_roundw
                  case rel => exact ⟨i + 1, T, a, c, by have := HI.out.1; omega, by go_num, hid ⟨HL.out.1.below H3.out, HL.out.2⟩⟩
                  case measure => have := HI.out.1; simp [intOf]; omega
              · have tm2 := tmod_odd h2
                have tm3 : (i : Int) % 2 = 1 := by omega
                clear h2 hi hlt
                go_upto_region 15 with fail
                go_region
                all_goals
                  go_wp2_with fail
                  go_roundw
                  case rel => exact ⟨i + 1, T, a, c, by have := HI.out.1; omega, by go_num, hid ⟨HL.out.1.below ((Below.refl _ _).drew), HL.out.2⟩⟩
                  case measure => have := HI.out.1; simp [intOf]; omega
            · obtain rfl : S.length = i := by omega
              have i1 : ¬ (S.length : Int) < (S.length : Int) := by omega
              have HT := hid (HAG.out T HL.out.2.ag)
              have HTL := hid (HL.out.2.ok.lok HL.out.2.ir)
              have HST := hid (store_vl (.slice a T.length c) T wr.drew (rf_of_owns (ownsRow_kept HL.out.1.o11 (Kept.ofBelow ((Below.refl _ wr).drew)) (fun _ _ e => e)) (ecs_one _)) (by have := HL.out.2.len; omega) HL.out.2.ok)
              have hbw := HL.out.1.bw
              obtain ⟨⟨-, -, p0, p1, p2⟩, -⟩ := HAL.out wr HL.out.1.inn
              have hpz := World.block_lt_of_cell? _ _ p0
              dsimp only at hpz
              have HSW := hid (show ∀ wx : World, Below wr.heap.size wr wx → wx.cell? ⟨W.heap.size, 0, none⟩ = some (.slice a T.length c) ∧ wx.cell? ⟨W.heap.size, 1, none⟩ = some (.slice none 0 0) ∧ wx.cell? ⟨w.heap.size, 0, none⟩ = some (.string nm) ∧ wx.cell? ⟨w.heap.size, 1, none⟩ = some (.int .i64 ar) ∧ wx.cell? ⟨w.heap.size, 2, none⟩ = some (.slice ac xs.length cc) ∧ wx.cell? ⟨r, 0, none⟩ = some (.int .i64 st) ∧ wx.cell? ⟨r, 1, none⟩ = some (.int .i64 at_) ∧ wx.cell? ⟨r, 2, none⟩ = some (.slice t1 td.length k1) ∧ wx.cell? ⟨r, 3, none⟩ = some (.slice t2 wl.length k2) ∧ wx.cell? ⟨r, 4, none⟩ = some (.slice t3 lk.length k3) from fun wx hb => ⟨(hb.cell hnz).trans n0, (hb.cell hnz).trans n1, (hb.cell hpz).trans p0, (hb.cell hpz).trans p1, (hb.cell hpz).trans p2, (hb.cell hrz).trans r0, (hb.cell hrz).trans r1, (hb.cell hrz).trans r2, (hb.cell hrz).trans r3, (hb.cell hrz).trans r4⟩)
              have HBW := hid hbw
              clear hbw
              go_upto_region 17 with fail
              go_region_held3 (fun wx => wx.cell? ⟨W.heap.size, 0, none⟩ = some (.slice a T.length c) ∧ wx.cell? ⟨W.heap.size, 1, none⟩ = some (.slice none 0 0) ∧ wx.cell? ⟨w.heap.size, 0, none⟩ = some (.string nm) ∧ wx.cell? ⟨w.heap.size, 1, none⟩ = some (.int .i64 ar) ∧ wx.cell? ⟨w.heap.size, 2, none⟩ = some (.slice ac xs.length cc) ∧ wx.cell? ⟨r, 0, none⟩ = some (.int .i64 st) ∧ wx.cell? ⟨r, 1, none⟩ = some (.int .i64 at_) ∧ wx.cell? ⟨r, 2, none⟩ = some (.slice t1 td.length k1) ∧ wx.cell? ⟨r, 3, none⟩ = some (.slice t2 wl.length k2) ∧ wx.cell? ⟨r, 4, none⟩ = some (.slice t3 lk.length k3))
                (first | with_reducible exact HSW.out _ H8.out | with_reducible exact HSW.out _ H7.out | with_reducible exact HSW.out _ H6.out | with_reducible exact HSW.out _ H5.out | exact HSW.out _ ((Below.refl _ _).drew))
                (first
                | (go_at_call 10
                   refine HST.out.mono ?_
                   rintro e w5 ⟨p, rfl, hv5, hb5⟩
                   have H5 := hid (show Below wr.heap.size wr w5 from below_on ((Below.refl _ _).drew) hb5)
                   have HR := hid (HRUN.out w5 p T (below_on HBW.out H5.out) hv5 HTL.out HT.out)
                   clear hv5 hb5 HST)
                | (go_at_call 12
                   refine HR.out.mono ?_
                   rintro e w6 ⟨u1, j1, u2, j2, u3, j3, rfl, hE6, hb6⟩
                   have H6 := hid (below_on H5.out hb6)
                   have hle := HL.out.1.ef.below (below_on H5.out hb6)
                   have HSM := hid (same_any st at_ u1 u2 u3 t1 t2 t3 j1 j2 j3 k1 k2 k3 td wl lk w6 HEE.out.tdl HEE.out.wrl HEE.out.lkl hE6 ⟨hle.o1, hle.o2, hle.o3⟩)
                   clear hE6 hb6 hle HR)
                | (go_at_call 14
                   refine HSM.out.mono ?_
                   rintro e w7 ⟨rfl, hb7⟩
                   have H7 := hid (below_on H6.out hb7)
                   clear hb7 HSM)
                | (go_at_call 17
                   refine (HKn.out _).mono ?_
                   rintro e w8 ⟨rfl, hb8⟩
                   have H8 := hid (below_on H7.out hb8)
                   clear hb8))
              go_wp2_with fail
              go_ret
              exact ⟨rfl, below_on HBW.out H8.out⟩

end Go.Proofs.YthcoigbkdbkojaaGreat
