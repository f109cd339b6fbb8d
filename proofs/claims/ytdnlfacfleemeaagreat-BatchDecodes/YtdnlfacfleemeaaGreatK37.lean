import Derived.Test.YtdnlfacfleemeaaGreatK36
import Derived.Test.YtdnlfacfleemeaaGreatK29
import Derived.Test.YtdnlfacfleemeaaGreatK23
import Derived.Test.YtdnlfacfleemeaaGreatK26
import Derived.Test.YtdnlfacfleemeaaGreatK18
namespace Go.Proofs.YtdnlfacfleemeaaGreat
open Go.RowKit Go.Lib

/-- While the document lays a transaction: its block, the Writer's, its bytes. -/
structure Rn (w W : World) (o : Obj) (r : Nat) (v : Value) (bs : List Int) : Prop where
  r0 : W.heap[w.heap.size]? = some o
  rw : W.heap[r]? = some (.cells #[v, .int .i64 0] 66 (0, 0))
  sn : Sn W v bs
  own : ∀ k, v.ownBlock = some k → k ≠ r
  lt : w.heap.size < r
  hb : Below w.heap.size w W

theorem Rn.below {w W W' : World} {o : Obj} {r : Nat} {v : Value} {bs : List Int} (h : Rn w W o r v bs) (hb : Below W.heap.size W W') : Rn w W' o r v bs :=
  ⟨blk_of hb h.r0 (lt_of h.r0), blk_of hb h.rw (lt_of h.rw), h.sn.below hb, h.own, h.lt, below_on h.hb hb⟩

theorem Rn.put {w W w2 : World} {o : Obj} {r : Nat} {v v2 : Value} {bs bs2 : List Int} (h : Rn w W o r v bs) (hs : Sn w2 v2 bs2) (hb : Below W.heap.size W w2)
    (hn : v2 = v ∨ ∀ k, v2.ownBlock = some k → W.heap.size ≤ k ∧ k < w2.heap.size) : Rn w ((w2.setCell ⟨r, 0, none⟩ v2).setCell ⟨r, 1, none⟩ (.int .i64 0)) o r v2 bs2 := by
  have h2 := h.below hb
  have hown : ∀ k, v2.ownBlock = some k → k ≠ r := by
    intro k hk
    rcases hn with rfl | hn
    · exact h.own k hk
    · have := hn k hk; have := lt_of h.rw; omega
  have k2 := ((Kept.refl (fun k => k = r) w2).setCell (p := ⟨r, 0, none⟩) (fun _ => rfl) v2).setCell (p := ⟨r, 1, none⟩) (fun _ => rfl) (.int .i64 0)
  have hlt := h.lt
  exact ⟨(k2.block _ (lt_of h2.r0) (by omega)).trans h2.r0, set2c h2.rw, hs.kept k2 (fun k hk e => hown k hk e), hown, h.lt, below_set2 h2.hb (by omega) _ _⟩

theorem rn_start {w w1 w2 : World} {o : Obj} {v2 : Value} {bs : List Int} (h : w1.heap[w.heap.size]? = some o) (hw : Below w.heap.size w w1) (hs : Sn w2 v2 bs) (hb : Below w1.heap.size w1 w2)
    (hn : v2 = .slice none 0 0 ∨ ∀ k, v2.ownBlock = some k → w1.heap.size ≤ k ∧ k < w2.heap.size) : Rn w (w2.alloc (.cells #[v2, .int .i64 0] 66)) o w2.heap.size v2 bs := by
  have hB := below1 w2 (.cells #[v2, .int .i64 0] 66)
  have h2 := blk_of hb h (lt_of h)
  refine ⟨blk_of hB h2 (lt_of h2), heap_alloc_new w2 _, hs.below hB, fun k hk => ?_, lt_of h2, below_on (below_on hw hb) hB⟩
  have := new_blk hn k hk
  omega

/-- What laid answers. -/
def LdP (w : World) (B : Nat) (vb : Value) (n : Nat) (bs : List Int) (t : Txd) (e : Ending) (w' : World) : Prop :=
  ∃ ao c, e = .returned (.slice ao (n + (txB t).length) c) ∧ w'.ownsRow B 5 1 (.slice ao (n + (txB t).length) c) (n + (txB t).length) (B8 (bs ++ txB t)) ∧ Kept (fun k => vb.ownBlock = some k) w w'

theorem own_form {w : World} {B : Nat} {v : Value} {n : Nat} {xs : List Value} (h : w.ownsRow B 5 1 v n xs) : ∃ ao c, v = .slice ao n c := by
  rcases h.2 with ⟨e1, e2⟩ | ⟨g, cap, cur, e1, _⟩
  · exact ⟨none, 0, by rw [e1, e2]⟩
  · exact ⟨_, _, e1⟩

set_option maxRecDepth 100000 in
set_option maxHeartbeats 4000000 in
theorem rlaidT_def (B0 B : Nat) (vb : Value) (n : Nat) (bs : List Int) (t : Txd) (S1 S2 : Value) (w : World) (hB : B ≤ w.heap.size) (hown : w.ownsRow B 5 1 vb n (B8 bs)) (hn : n ≤ 20000000) (h1 : CdAt B0 w S1 t.xs) (h2 : VsAt B0 w S2 t.vs) (ho : TxOk t) (hk : t.k = 1)
    (hE : (procChk t.pn t.pa t.xs).2 = 0) : Calls Tryz.prog 25 #[vb, txv t S1 S2] w (LdP w B vb n bs t) := by
  have HH := hid h1.code
  have HP := hid (procB_small _ _ _ hE)
  have HO := hid (procB_oct _ _ _ hE ho.1)
  have HE := hid (fun W hW => rpencode_ok t.pn t.pa S1 t.xs W hW ho.1 hE)
  obtain ⟨a1, c1, rfl⟩ := h1.form
  obtain ⟨a2, c2, rfl⟩ := h2.form
  obtain ⟨av, cv, rfl⟩ := own_form hown
  have HOW := hid (And.intro hB hown)
  have hB0 := hid (below1 w (txo t (.slice a1 t.xs.length c1) (.slice a2 t.vs.length c2) 30))
  have HT : Hid (txB t = [1] ++ (rowF 10 (strBs (mkStr (procB t.pn t.pa t.xs))).length ++ strBs (mkStr (procB t.pn t.pa t.xs)))) := hid (by
    rw [strBs_mkStr _ HO.out, txB, if_pos hk]
    simp)
  unfold LdP
  obtain ⟨k, pn, pa, xs, nm, vs⟩ := t
  dsimp only at *
  subst hk
  obtain ⟨l, hl⟩ : ∃ l, l = procB pn pa xs := ⟨_, rfl⟩
  unfold RPEnc at HE
  rw [← hl] at HP HO HE HT
  have HX := hid hE
  clear h1 h2 hown ho hB hl hE
  go_enter Tryz.func25, Tryz.ntmps25
  go_upto_region 2 with (first
    | (go_at_call 49
       refine (wb0 _ [] 1 _ (sn_nil _) (by simp)).mono ?_
       rintro e w2 ⟨v2, rfl, hs2, hb2, hn2⟩
       obtain ⟨bs2, hbs2⟩ : ∃ bs', bs' = ([] : List Int) ++ [1] := ⟨_, rfl⟩
       rw [← hbs2] at hs2
       have HB2 := hid hbs2
       obtain ⟨ao2, cc2, hv2⟩ := hs2.form
       rw [hv2] at hs2 hn2 ⊢
       have H2 := hid (rn_start (heap_alloc_new w _) hB0.out hs2 hb2 hn2)
       clear hb2 hs2 hv2 hn2 hbs2))
  clear hB0
  have hln2 : bs2.length ≤ 10 := by rw [HB2.out]; simp
  refine cutG (fun W => Rn w W (txo ⟨1, pn, pa, xs, nm, vs⟩ (.slice a1 xs.length c1) (.slice a2 vs.length c2) 30) w2.heap.size (.slice ao2 bs2.length cc2) bs2) H2.out ?_
  intro W4 H4
  generalize w2.heap.size = r at H4 ⊢
  have H4 := hid H4
  clear H2
  obtain ⟨p0, p1, p2, p3, p4, p5, -⟩ := vfacts6 H4.out.r0
  obtain ⟨q0, q1, fq⟩ := vfacts2 H4.out.rw
  have nl := H4.out.lt
  go_upto_region 12 with (first
    | (go_at_call 50
       refine (HE.out _ (HH.out.below H4.out.hb)).mono ?_
       rintro e w5 (⟨h5, -⟩ | ⟨-, v5, rfl, hs5, hb5⟩)
       · exact absurd HX.out h5
       have hst := sl_string hs5.1
       have H5 := hid (H4.out.below hb5)
       obtain ⟨q0, q1, fq⟩ := vfacts2 H5.out.rw
       clear hb5 hs5)
    | (go_at_call 51
       refine (wt0 _ _ (mkStr l) _ H5.out.sn (by omega) (by rw [mkStr_size]; have := HP.out; omega)).mono ?_
       rintro e w9 ⟨v9, rfl, hs9, hb9, hn9⟩
       obtain ⟨bs9, hbs9⟩ : ∃ bs', bs' = bs2 ++ (rowF 10 (strBs (mkStr l)).length ++ strBs (mkStr l)) := ⟨_, rfl⟩
       rw [← hbs9] at hs9
       have HB9 := hid hbs9
       obtain ⟨ao9, cc9, hv9⟩ := hs9.form
       rw [hv9] at hs9 hn9 ⊢
       have g9 := H5.out.below hb9
       obtain ⟨q0, q1, fq⟩ := vfacts2 g9.rw
       have H9 := hid (H5.out.put hs9 hb9 hn9)
       clear hb9 hs9 hv9 hn9 g9 hbs9))
  refine cutG (fun W => Rn w W (txo ⟨1, pn, pa, xs, nm, vs⟩ (.slice a1 xs.length c1) (.slice a2 vs.length c2) 30) r (.slice ao9 bs9.length cc9) bs9) H9.out ?_
  intro W9 H10
  have H10 := hid H10
  clear H9 H5 H4 q0 q1 fq p0 p1 p2 p3 p4 p5
  have HT2 : Hid (bs9 = txB ⟨1, pn, pa, xs, nm, vs⟩) := hid (by rw [HT.out, HB9.out, HB2.out]; simp)
  have HL9 : Hid (bs9.length ≤ 200000) := hid (by 
    rw [HB9.out, strBs_mkStr _ HO.out]
    have := rowF_le 10 (l.length : Int)
    have := HP.out
    simp only [List.length_append]
    omega)
  obtain ⟨q0, q1, fq⟩ := vfacts2 H10.out.rw
  go_wp2_with (at_builtin; refine wpList_append_sn _ rfl (.tmp 58) (.tmp 60) rfl B _ n bs rfl (ownsRow_kept HOW.out.2 (Kept.ofBelow H10.out.hb) (fun _ _ h => h)) _ bs9 rfl H10.out.sn (by have := HL9.out; omega) (Nat.le_trans HOW.out.1 H10.out.hb.size) ?_)
  intro ao7 c7 w7 ho7 hg7
  have H7 := hid (And.intro ho7 hg7)
  clear ho7 hg7
  go_wp2
  go_ret
  rw [← HT2.out]
  exact ⟨ao7, c7, rfl, by have := H7.out.1; simpa [B8] using this, ((Kept.ofBelow H10.out.hb).mono (fun _ _ h => h.elim)).grown H7.out.2 (fun k _ h => h)⟩

theorem take_vB (vs : List Vd) (n : Nat) (v : Vd) (h : vs[n]? = some v) : (vs.take (n + 1)).flatMap vB = (vs.take n).flatMap vB ++ vB v := by
  rw [List.take_add_one, h]
  simp

set_option maxRecDepth 100000 in
set_option maxHeartbeats 4000000 in
theorem rlaidT_call (B0 B : Nat) (vb : Value) (n : Nat) (bs : List Int) (t : Txd) (S1 S2 : Value) (w : World) (hB : B ≤ w.heap.size) (hown : w.ownsRow B 5 1 vb n (B8 bs)) (hn : n ≤ 20000000) (h1 : CdAt B0 w S1 t.xs) (h2 : VsAt B0 w S2 t.vs) (ho : TxOk t) (hk : t.k = 2)
    (hE : nameB t.nm = true) (hl : t.vs.length ≤ 16) (hv : ∀ v ∈ t.vs, chk v.k v.i v.t = 0) (h0 : txChk t = 0) : Calls Tryz.prog 25 #[vb, txv t S1 S2] w (LdP w B vb n bs t) := by
  have HS := hid h2
  have HNS := hid (name_size hE)
  have HVV := hid (And.intro hv ho.2)
  have HC0 := hid h0
  obtain ⟨a1, c1, rfl⟩ := h1.form
  obtain ⟨a2, c2, rfl⟩ := h2.form
  obtain ⟨av, cv, rfl⟩ := own_form hown
  have HOW := hid (And.intro hB hown)
  have hB0 := hid (below1 w (txo t (.slice a1 t.xs.length c1) (.slice a2 t.vs.length c2) 30))
  have HT : Hid (txB t = [2] ++ rowF 10 ((strBs t.nm).length : Nat) ++ strBs t.nm ++ rowF 10 (t.vs.length : Int) ++ t.vs.flatMap vB) := hid (by rw [txB, if_neg (by omega)])
  unfold LdP
  obtain ⟨k, pn, pa, xs, nm, vs⟩ := t
  dsimp only at *
  subst hk
  have hl' : (vs.length : Int) ≤ 16 := by omega
  clear h1 h2 hown ho hB hE hv h0
  go_enter Tryz.func25, Tryz.ntmps25
  go_upto_region 2 with (first
    | (go_at_call 49
       refine (wb0 _ [] 2 _ (sn_nil _) (by simp)).mono ?_
       rintro e w2 ⟨v2, rfl, hs2, hb2, hn2⟩
       obtain ⟨bs2, hbs2⟩ : ∃ bs', bs' = ([] : List Int) ++ [2] := ⟨_, rfl⟩
       rw [← hbs2] at hs2
       have HB2 := hid hbs2
       obtain ⟨ao2, cc2, hv2⟩ := hs2.form
       rw [hv2] at hs2 hn2 ⊢
       have H2 := hid (rn_start (heap_alloc_new w _) hB0.out hs2 hb2 hn2)
       clear hb2 hs2 hv2 hn2 hbs2))
  clear hB0
  have hln2 : bs2.length ≤ 10 := by rw [HB2.out]; simp
  refine cutG (fun W => Rn w W (txo ⟨2, pn, pa, xs, nm, vs⟩ (.slice a1 xs.length c1) (.slice a2 vs.length c2) 30) w2.heap.size (.slice ao2 bs2.length cc2) bs2) H2.out ?_
  intro W4 H4
  generalize w2.heap.size = r at H4 ⊢
  have H4 := hid H4
  clear H2
  obtain ⟨p0, p1, p2, p3, p4, p5, -⟩ := vfacts6 H4.out.r0
  obtain ⟨q0, q1, fq⟩ := vfacts2 H4.out.rw
  have nl := H4.out.lt
  go_upto_region 6 with (first
    | (go_at_call 51
       refine (wt0 _ _ nm _ H4.out.sn (by omega) (by have := HNS.out; omega)).mono ?_
       rintro e w9 ⟨v9, rfl, hs9, hb9, hn9⟩
       obtain ⟨bs3, hbs9⟩ : ∃ bs', bs' = bs2 ++ (rowF 10 (strBs nm).length ++ strBs nm) := ⟨_, rfl⟩
       rw [← hbs9] at hs9
       have HB3 := hid hbs9
       obtain ⟨ao3, cc3, hv9⟩ := hs9.form
       rw [hv9] at hs9 hn9 ⊢
       have g9 := H4.out.below hb9
       obtain ⟨q0, q1, fq⟩ := vfacts2 g9.rw
       have H9 := hid (H4.out.put hs9 hb9 hn9)
       clear hb9 hs9 hv9 hn9 g9 hbs9))
  refine cutG (fun W => Rn w W (txo ⟨2, pn, pa, xs, nm, vs⟩ (.slice a1 xs.length c1) (.slice a2 vs.length c2) 30) r (.slice ao3 bs3.length cc3) bs3) H9.out ?_
  intro W5 H5
  have H5 := hid H5
  have hln3 : bs3.length ≤ 200 := by
    rw [HB3.out]
    have := rowF_le 10 (strBs nm).length
    have := HNS.out
    have := strBs_len nm
    simp only [List.length_append]
    omega
  clear H9 H4 q0 q1 fq p0 p1 p2 p3 p4 p5
  obtain ⟨p0, p1, p2, p3, p4, p5, -⟩ := vfacts6 H5.out.r0
  obtain ⟨q0, q1, fq⟩ := vfacts2 H5.out.rw
  go_upto_region 7 with (first
    | (go_at_call 24
       refine (wn0 _ bs3 (vs.length : Int) _ H5.out.sn (by omega) (by omega) (by omega)).mono ?_
       rintro e w9 ⟨v9, rfl, hs9, hb9, hn9⟩
       obtain ⟨bs4, hbs9⟩ : ∃ bs', bs' = bs3 ++ rowF 10 (vs.length : Int) := ⟨_, rfl⟩
       rw [← hbs9] at hs9
       have HB4 := hid hbs9
       obtain ⟨ao4, cc4, hv9⟩ := hs9.form
       rw [hv9] at hs9 hn9 ⊢
       have g9 := H5.out.below hb9
       obtain ⟨q0, q1, fq⟩ := vfacts2 g9.rw
       have H9 := hid (H5.out.put hs9 hb9 hn9)
       clear hb9 hs9 hv9 hn9 g9 hbs9))
  refine cutG (fun W => Rn w W (txo ⟨2, pn, pa, xs, nm, vs⟩ (.slice a1 xs.length c1) (.slice a2 vs.length c2) 30) r (.slice ao4 bs4.length cc4) bs4) H9.out ?_
  intro W6 H6
  have H6 := hid H6
  have hln4 : bs4.length ≤ 300 := by
    rw [HB4.out]
    have := rowF_le 10 (vs.length : Int)
    simp only [List.length_append]
    omega
  clear H9 H5 q0 q1 fq p0 p1 p2 p3 p4 p5
  obtain ⟨p0, p1, p2, p3, p4, p5, -⟩ := vfacts6 H6.out.r0
  obtain ⟨q0, q1, fq⟩ := vfacts2 H6.out.rw
  go_wp2
  go_loopw [8] (fun ix wr => ∃ (m : Nat) (ao5 : Option Addr) (c5 : Nat) (bs5 : List Int), m ≤ vs.length ∧ ix = .int .i64 m ∧ Hid (bs5 = bs4 ++ (vs.take m).flatMap vB) ∧ Hid (Rn w wr (txo ⟨2, pn, pa, xs, nm, vs⟩ (.slice a1 xs.length c1) (.slice a2 vs.length c2) 30) r (.slice ao5 bs5.length c5) bs5)) (fun ix _ => vs.length - (intOf ix).toNat)
  case atStart => exact ⟨0, ao4, cc4, bs4, Nat.zero_le _, rfl, hid (by simp), H6⟩
  case round =>
    clear H6 p0 p1 p2 p3 p4 p5 q0 q1 fq
    obtain ⟨m, ao5, c5, bs5, hm, rfl, hbs, hT⟩ := hrel
    by_cases hlt : m < vs.length
    · obtain ⟨v, hv⟩ : ∃ v, vs[m]? = some v := ⟨_, List.getElem?_eq_getElem hlt⟩
      obtain ⟨ao3', cap3, hao3, hcap3, hc3⟩ := HS.out
      obtain ⟨b3, off3, hb3, hB3, hat3⟩ := hc3 (by intro e; rw [e] at hlt; simp at hlt)
      injection hao3 with hao3 hx5 hx6
      clear hx5 hx6 hcap3
      rw [hb3] at hao3
      subst hao3
      have hvd := hat3 m v hv
      obtain ⟨d0, d1, d2⟩ := hvd.same (hT.out.hb.block b3 hvd.lt)
      obtain ⟨p0, p1, p2, p3, p4, p5, -⟩ := vfacts6 hT.out.r0
      obtain ⟨q0, q1, fq⟩ := vfacts2 hT.out.rw
      have hlt' : (m : Int) < (vs.length : Int) := by omega
      have HCV := hid (HVV.out.1 v (List.mem_of_getElem? hv))
      have HOV := hid (HVV.out.2 v (List.mem_of_getElem? hv))
      have HQ := hid (encB_len v.k v.i v.t HCV.out HOV.out.1 HOV.out.2)
      have hl5 : bs5.length ≤ 10000 := by
        rw [hbs.out, List.length_append]
        have h1 := flat_lenI vB 320 (vs.take m) (fun y hy => vB_small y (HVV.out.1 y (List.mem_of_mem_take hy)))
        have h2 : (vs.take m).length ≤ 16 := by rw [List.length_take]; omega
        omega
      have HV0 := hid hv
      clear hc3 hat3 hvd hv hb3
      go_wp2_with (first
        | (go_at_call 52
           refine (rencode_any v.k v.i v.t HOV.out.1 HOV.out.2 _).mono ?_
           rintro e w8 (⟨h8, -⟩ | ⟨-, v8, rfl, hs8, hb8, -⟩)
           · exact absurd HCV.out h8
           have hst := sl_string hs8.1
           have H8 := hid (hT.out.below hb8)
           obtain ⟨q0, q1, fq⟩ := vfacts2 H8.out.rw
           clear hb8 hs8)
        | (go_at_call 51
           refine (wt0 _ bs5 (mkStr (encB v.k v.i v.t)) _ H8.out.sn (by omega) (by rw [mkStr_size]; have := HQ.out.1; omega)).mono ?_
           rintro e w9 ⟨v9, rfl, hs9, hb9, hn9⟩
           obtain ⟨bs9, hbs9⟩ : ∃ bs', bs' = bs5 ++ (rowF 10 (strBs (mkStr (encB v.k v.i v.t))).length ++ strBs (mkStr (encB v.k v.i v.t))) := ⟨_, rfl⟩
           rw [← hbs9] at hs9
           have HB9 := hid hbs9
           obtain ⟨ao9, cc9, hv9⟩ := hs9.form
           rw [hv9] at hs9 hn9 ⊢
           have g9 := H8.out.below hb9
           obtain ⟨q0, q1, fq⟩ := vfacts2 g9.rw
           have H9 := hid (H8.out.put hs9 hb9 hn9)
           clear hb9 hs9 hv9 hn9 g9 hbs9))
      go_roundw
      case rel => exact ⟨m + 1, ao9, cc9, bs9, by omega, by go_num, hid (by rw [HB9.out, hbs.out, take_vB vs m v HV0.out, List.append_assoc, strBs_mkStr _ HQ.out.2]; rfl), H9⟩
      case measure => simp [intOf]; omega
    · obtain ⟨p0, p1, p2, p3, p4, p5, -⟩ := vfacts6 hT.out.r0
      go_upto_region 12 with fail
      clear p0 p1 p2 p3 p4 p5
      refine cutG (fun W => Rn w W (txo ⟨2, pn, pa, xs, nm, vs⟩ (.slice a1 xs.length c1) (.slice a2 vs.length c2) 30) r (.slice ao5 bs5.length c5) bs5) hT.out ?_
      intro W9 H10
      have H10 := hid H10
      have HT2 : Hid (bs5 = txB ⟨2, pn, pa, xs, nm, vs⟩) := hid (by
        rw [HT.out, hbs.out, List.take_of_length_le (by omega), HB4.out, HB3.out, HB2.out]
        simp [List.append_assoc])
      have HL9 : Hid (bs5.length ≤ 200000) := hid (by
        rw [HT2.out]
        exact Nat.le_trans (txB_small _ HC0.out) (by omega))
      obtain ⟨q0, q1, fq⟩ := vfacts2 H10.out.rw
      obtain ⟨p0, p1, p2, p3, p4, p5, -⟩ := vfacts6 H10.out.r0
      clear hT
      go_wp2_with (at_builtin; refine wpList_append_sn _ rfl (.tmp 58) (.tmp 60) rfl B _ n bs rfl (ownsRow_kept HOW.out.2 (Kept.ofBelow H10.out.hb) (fun _ _ h => h)) _ bs5 rfl H10.out.sn (by have := HL9.out; omega) (Nat.le_trans HOW.out.1 H10.out.hb.size) ?_)
      intro ao7 c7 w7 ho7 hg7
      have H7 := hid (And.intro ho7 hg7)
      clear ho7 hg7
      go_wp2
      go_ret
      rw [← HT2.out]
      exact ⟨ao7, c7, rfl, by have := H7.out.1; simpa [B8] using this, ((Kept.ofBelow H10.out.hb).mono (fun _ _ h => h.elim)).grown H7.out.2 (fun k _ h => h)⟩

/-- The document's laid. -/
theorem rlaidT_any (B0 B : Nat) (vb : Value) (n : Nat) (bs : List Int) (t : Txd) (S1 S2 : Value) (w : World) (hB : B ≤ w.heap.size) (hown : w.ownsRow B 5 1 vb n (B8 bs)) (hn : n ≤ 20000000) (h1 : CdAt B0 w S1 t.xs) (h2 : VsAt B0 w S2 t.vs) (ho : TxOk t) (h0 : txChk t = 0) :
    Calls Tryz.prog 25 #[vb, txv t S1 S2] w (LdP w B vb n bs t) := by
  rcases txChk_good t h0 with ⟨hk, _, _, hE⟩ | ⟨hk, _, _, _, hE, hl, hv⟩
  · exact rlaidT_def B0 B vb n bs t S1 S2 w hB hown hn h1 h2 ho hk hE
  · exact rlaidT_call B0 B vb n bs t S1 S2 w hB hown hn h1 h2 ho hk hE hl hv h0

end Go.Proofs.YtdnlfacfleemeaaGreat

namespace Go.Proofs.YtdnlfacfleemeaaGreat
open Go.RowKit Go.Lib

/-- What the document's Encode answers of a batch. -/
def REn (w : World) (r : Except Int (List Int)) (e : Ending) (w' : World) : Prop :=
  Below w.heap.size w w' ∧ match r with
  | .error E => e = .returned (.tuple #[.slice none 0 0, .int .i64 E])
  | .ok l => ∃ v, e = .returned (.tuple #[v, .int .i64 0]) ∧ Sl w' v l ∧ ∀ k, v.ownBlock = some k → w.heap.size ≤ k

/-- While the document encodes a batch: the batch's block, the row of bytes. -/
structure Ec (w W : World) (o : Obj) (B : Nat) (v : Value) (bs : List Int) : Prop where
  r0 : W.heap[w.heap.size]? = some o
  ow : W.ownsRow B 5 1 v bs.length (B8 bs)
  hb : Below w.heap.size w W
  lB : w.heap.size < B
  hB : B ≤ W.heap.size

theorem Ec.step {w W w' : World} {o : Obj} {B : Nat} {v v' : Value} {bs bs' : List Int} (h : Ec w W o B v bs) (ho : w'.ownsRow B 5 1 v' bs'.length (B8 bs')) (hk : Kept (fun k => v.ownBlock = some k) W w') : Ec w w' o B v' bs' := by
  have hlo := h.ow.lt
  have hlB := h.lB
  have hs := hk.size
  have h2 := h.hB
  refine ⟨(hk.block _ (lt_of h.r0) (fun e => ?_)).trans h.r0, ho, h.hb.trans (hk.below h.hb.size (fun k hk2 e => ?_)), h.lB, by omega⟩
  · have := hlo _ e; omega
  · have := hlo _ e; omega

theorem take_txB (ts : List Txd) (n : Nat) (t : Txd) (h : ts[n]? = some t) : (ts.take (n + 1)).flatMap txB = (ts.take n).flatMap txB ++ txB t := by
  rw [List.take_add_one, h]
  simp

theorem take_txB_len (ts : List Txd) (n : Nat) : ((ts.take n).flatMap txB).length ≤ (ts.flatMap txB).length := by
  have h : ts.flatMap txB = (ts.take n).flatMap txB ++ (ts.drop n).flatMap txB := by rw [← List.flatMap_append, List.take_append_drop]
  rw [h, List.length_append]
  omega

set_option maxRecDepth 100000 in
set_option maxHeartbeats 4000000 in
theorem rbenc_no (B : Nat) (f : Int) (S : Value) (ts : List Txd) (w : World) (h : TsAt B w S ts) (hL : ∀ t ∈ ts, TxL t) (hl : ts.length ≤ 1000000000) (hE : batChk f ts ≠ 0) :
    Calls Tryz.prog 13 #[.agg #[.int .i64 f, S]] w (REn w (batE f ts)) := by
  have HC := hid (fun W (hb : Below w.heap.size w W) => rbcheck_any B f S ts W (h.below hb) hL hl)
  have hR : batE f ts = .error (batChk f ts) := by unfold batE; rw [if_neg hE]
  rw [hR]
  unfold REn
  dsimp only
  have he2 : (batChk f ts == 0) = false := by simpa using hE
  obtain ⟨ao, cap, rfl, -⟩ := h
  have hB0 := hid (below1 w (bo f (.slice ao ts.length cap)))
  generalize batChk f ts = E at *
  clear hR hE hL
  go_enter Tryz.func13, Tryz.ntmps13
  go_wp2_with (first
    | (go_at_call 9
       refine (HC.out _ hB0.out).mono ?_
       rintro e w1 ⟨rfl, hb1⟩
       have H1 := hid (below_on hB0.out hb1)
       clear hb1))
  go_ret2
  exact ⟨H1.out, rfl⟩

set_option maxRecDepth 100000 in
set_option maxHeartbeats 8000000 in
theorem rbenc_ok (B0 : Nat) (f : Int) (S : Value) (ts : List Txd) (w : World) (h : TsAt B0 w S ts) (hL : ∀ t ∈ ts, TxL t) (ho : ∀ t ∈ ts, TxOk t) (hE : batChk f ts = 0) :
    Calls Tryz.prog 13 #[.agg #[.int .i64 f, S]] w (REn w (batE f ts)) := by
  have hg := batChk_good f ts hE
  have HC := hid (fun W (hb : Below w.heap.size w W) => rbcheck_any B0 f S ts W (h.below hb) hL (by omega))
  rw [hE] at HC
  have HG := hid (tsChk_all ts hg.2.2.2.2.2)
  have HBS := hid (batB_small f ts hg.2.2.2.2.2 hg.2.2.2.1)
  obtain ⟨R, hR⟩ : ∃ R, R = batE f ts := ⟨_, rfl⟩
  rw [← hR]
  have HR : Hid (R = if (batB f ts).length ≤ 65536 then .ok (batB f ts) else .error 4) := hid (by rw [hR, batE, if_pos hE])
  have HO := hid ho
  have hlen : ts.length ≤ 64 := hg.2.2.2.1
  have hlen' : (ts.length : Int) ≤ 64 := by omega
  have HF := hid (And.intro hg.1 hg.2.1)
  obtain ⟨ao, cap, rfl, -, hcells⟩ := h
  have HX := hid hcells
  have hB0 := hid (below1 w (bo f (.slice ao ts.length cap)))
  have hR0 := hid (heap_alloc_new w (bo f (.slice ao ts.length cap)))
  clear hR hE hL hg ho hcells
  go_enter Tryz.func13, Tryz.ntmps13
  go_upto_region 5 with (first
    | (go_at_call 9
       refine (HC.out _ hB0.out).mono ?_
       rintro e w1 ⟨rfl, hb1⟩
       have g1 := blk_of hb1 hR0.out (by simp)
       obtain ⟨p0, p1, -⟩ := vfacts2 g1
       have H1 := hid (And.intro g1 (below_on hB0.out hb1))
       clear hb1 g1)
    | (go_at_call 24
       refine (wn0 _ [] f _ (sn_nil _) (by simp) (by have := HF.out.1; omega) (by have := HF.out.2; omega)).mono ?_
       rintro e w2 ⟨v2, rfl, hs2, hb2, hn2⟩
       obtain ⟨bs2, hbs2⟩ : ∃ bs', bs' = ([] : List Int) ++ rowF 10 f := ⟨_, rfl⟩
       rw [← hbs2] at hs2
       have HB2 := hid hbs2
       obtain ⟨ao2, cc2, hv2⟩ := hs2.form
       rw [hv2] at hs2 hn2 ⊢
       have H2 := hid (rn_start H1.out.1 H1.out.2 hs2 hb2 hn2)
       clear hb2 hs2 hv2 hn2 hbs2))
  clear H1 hB0 hR0 HC
  refine cutG (fun W => Rn w W (bo f (.slice ao ts.length cap)) w2.heap.size (.slice ao2 bs2.length cc2) bs2) H2.out ?_
  intro W4 H4
  generalize w2.heap.size = r at H4 ⊢
  have hln2 : bs2.length ≤ 20 := by
    rw [HB2.out]
    have := rowF_le 10 f
    simp only [List.nil_append]
    omega
  have H4 := hid H4
  clear H2 p0 p1
  obtain ⟨p0, p1, -⟩ := vfacts2 H4.out.r0
  obtain ⟨q0, q1, fq⟩ := vfacts2 H4.out.rw
  have nl := H4.out.lt
  go_upto_region 6 with (first
    | (go_at_call 24
       refine (wn0 _ bs2 (ts.length : Int) _ H4.out.sn (by omega) (by omega) (by omega)).mono ?_
       rintro e w3 ⟨v3, rfl, hs3, hb3, hn3⟩
       obtain ⟨bs3, hbs3⟩ : ∃ bs', bs' = bs2 ++ rowF 10 (ts.length : Int) := ⟨_, rfl⟩
       rw [← hbs3] at hs3
       have HB3 := hid hbs3
       obtain ⟨ao3, cc3, hv3⟩ := hs3.form
       rw [hv3] at hs3 hn3 ⊢
       have g3 := H4.out.below hb3
       obtain ⟨q0, q1, fq⟩ := vfacts2 g3.rw
       have H3 := hid (H4.out.put hs3 hb3 hn3)
       clear hb3 hs3 hv3 hn3 g3 hbs3))
  refine cutG (fun W => Rn w W (bo f (.slice ao ts.length cap)) r (.slice ao3 bs3.length cc3) bs3) H3.out ?_
  intro W5 H5
  have H5 := hid H5
  have hln3 : bs3.length ≤ 40 := by
    rw [HB3.out, List.length_append]
    have := rowF_le 10 (ts.length : Int)
    omega
  have HB3' : Hid (bs3 = rowF 10 f ++ rowF 10 (ts.length : Int)) := hid (by rw [HB3.out, HB2.out]; rfl)
  clear H3 H4 q0 q1 fq p0 p1 HB3 HB2
  obtain ⟨p0, p1, -⟩ := vfacts2 H5.out.r0
  obtain ⟨q0, q1, fq⟩ := vfacts2 H5.out.rw
  go_wp2_with (at_builtin; refine wpList_append_sn _ rfl (.tmp 22) (.tmp 24) rfl W5.heap.size (.slice none 0 0) 0 [] rfl (World.ownsRow_nil _ _ _ _) _ bs3 rfl H5.out.sn (by omega) (Nat.le_refl _) ?_)
  intro ao7 c7 w7 ho7 hg7
  have H7 : Hid (Ec w w7 (bo f (.slice ao ts.length cap)) W5.heap.size (.slice ao7 bs3.length c7) bs3) := hid (by
    have hl := lt_of H5.out.r0
    have hk : Kept (fun k => (Value.slice none 0 0).ownBlock = some k) W5 w7 := (Kept.refl _ W5).grown hg7 (fun _ _ h => h)
    have ho8 : w7.ownsRow W5.heap.size 5 1 (.slice ao7 bs3.length c7) bs3.length (B8 bs3) := by simpa [B8] using ho7
    exact ⟨(hk.block _ hl (by simp [Value.ownBlock])).trans H5.out.r0, ho8, H5.out.hb.trans (hk.below H5.out.hb.size (fun k _ e => by simp [Value.ownBlock] at e)), hl, hk.size⟩)
  generalize W5.heap.size = B at H7
  clear ho7 hg7
  clear H5 p0 p1 q0 q1 fq
  go_wp2
  go_loopw [6, 7] (fun v6 ix wr => ∃ (n : Nat) (ao6 : Option Addr) (c6 : Nat) (bs : List Int), n ≤ ts.length ∧ v6 = .slice ao6 bs.length c6 ∧ ix = .int .i64 n ∧ Hid (bs = bs3 ++ (ts.take n).flatMap txB) ∧ Hid (Ec w wr (bo f (.slice ao ts.length cap)) B (.slice ao6 bs.length c6) bs)) (fun _ ix _ => ts.length - (intOf ix).toNat)
  case atStart => exact ⟨0, ao7, c7, bs3, Nat.zero_le _, rfl, rfl, hid (by simp), H7⟩
  case round =>
    clear H7
    obtain ⟨n, ao6, c6, bs, hn, rfl, rfl, hbs, hT⟩ := hrel
    obtain ⟨p0, p1, -⟩ := vfacts2 hT.out.r0
    have hlb : bs.length ≤ 20000000 := by
      have h1 := HBS.out
      have h2 := take_txB_len ts n
      rw [batB, List.length_append, List.length_append] at h1
      rw [hbs.out, List.length_append]
      omega
    by_cases hlt : n < ts.length
    · obtain ⟨t, ht⟩ : ∃ t, ts[n]? = some t := ⟨_, List.getElem?_eq_getElem hlt⟩
      obtain ⟨b, off, rfl, hBb, hat⟩ := HX.out (by intro e; rw [e] at hlt; simp at hlt)
      obtain ⟨S1, S2, hc, hS1, hS2⟩ := hat n t ht
      obtain ⟨d0, d1, d2, d3, d4, d5⟩ := hc.same (hT.out.hb.block b hc.lt)
      have hlt' : (n : Int) < (ts.length : Int) := by omega
      have HS := hid (And.intro hS1 hS2)
      have HTX := hid (And.intro (HG.out t (List.mem_of_getElem? ht)) (HO.out t (List.mem_of_getElem? ht)))
      obtain ⟨a1, cc1, rfl⟩ := hS1.form
      obtain ⟨a2, cc2, rfl⟩ := hS2.form
      have HT0 := hid ht
      have HLD := hid (rlaidT_any B0 B (.slice ao6 bs.length c6) bs.length bs t _ _ wr hT.out.hB hT.out.ow hlb (HS.out.1.same (Same.below hT.out.hb)) (HS.out.2.same (Same.below hT.out.hb)) HTX.out.2 HTX.out.1)
      unfold LdP at HLD
      clear hc hat ht hS1 hS2 hlb
      go_wp2_with (first
        | (go_at_call 25
           refine HLD.out.mono ?_
           rintro e w9 ⟨ao9, c9, rfl, ho9, hk9⟩
           obtain ⟨bs9, hbs9⟩ : ∃ bs', bs' = bs ++ txB t := ⟨_, rfl⟩
           rw [← hbs9] at ho9
           have hl9 : bs.length + (txB t).length = bs9.length := by rw [hbs9, List.length_append]
           rw [hl9] at ho9 ⊢
           have HB9 := hid hbs9
           have H9 := hid (hT.out.step ho9 hk9)
           clear ho9 hk9 hbs9 hl9))
      go_roundw
      case rel => exact ⟨n + 1, ao9, c9, bs9, by omega, rfl, by go_num, hid (by rw [HB9.out, hbs.out, take_txB ts n t HT0.out, List.append_assoc]), H9⟩
      case measure => simp [intOf]; omega
    · have HBB : Hid (batB f ts = bs) := hid (by
        rw [hbs.out, List.take_of_length_le (by omega), HB3'.out]
        rfl)
      rw [HBB.out] at HR
      by_cases hbig : bs.length ≤ 65536
      · have HR2 : Hid (R = .ok bs) := hid (by rw [HR.out, if_pos hbig])
        have hd : decide ((65536 : Int) < (bs.length : Int)) = false := by simp; omega
        clear HR hlb
        go_wp2
        go_ret2
        rw [HR2.out]
        exact ⟨hT.out.hb, _, rfl, sl_of_owns hT.out.ow, fun k hk => by have := hT.out.ow.lt k hk; have := hT.out.lB; omega⟩
      · have HR2 : Hid (R = .error 4) := hid (by rw [HR.out, if_neg hbig])
        have hd : (65536 : Int) < (bs.length : Int) := by omega
        clear HR hlb hbig
        go_wp2
        go_ret2
        rw [HR2.out]
        exact ⟨hT.out.hb, rfl⟩

/-- The document's Encode of a batch. -/
theorem rbenc_any (B : Nat) (f : Int) (S : Value) (ts : List Txd) (w : World) (h : TsAt B w S ts) (hL : ∀ t ∈ ts, TxL t) (hl : ts.length ≤ 1000000000) (ho : ∀ t ∈ ts, TxOk t) : Calls Tryz.prog 13 #[.agg #[.int .i64 f, S]] w (REn w (batE f ts)) := by
  by_cases hE : batChk f ts = 0
  · exact rbenc_ok B f S ts w h hL ho hE
  · exact rbenc_no B f S ts w h hL hl hE

end Go.Proofs.YtdnlfacfleemeaaGreat

namespace Go.Proofs.YtdnlfacfleemeaaGreat
open Go.RowKit Go.Lib

theorem tMark_at (zs : List Tx2) (m : Nat) (h : m < 5) : (zs ++ tMarks 5)[zs.length + m]? = some (tMark m) := by
  rw [List.getElem?_append_right (by omega)]
  simp [tMarks, h]
theorem vMark_at (vs : List Vd) (m : Nat) (h : m < 5) : (vs ++ vMarks 5)[vs.length + m]? = some (vMark m) := by
  rw [List.getElem?_append_right (by omega)]
  simp [vMarks, h]
theorem iMark_at (xs : List Ins) (m : Nat) (h : m < 5) : (xs ++ iMarks 5)[xs.length + m]? = some (iMark m) := by
  rw [List.getElem?_append_right (by omega)]
  simp [iMarks, h]

theorem tn_round {B : Nat} {w wr : World} {tb c : Nat} {zs : List Tx2} {ts : List Txd} (h : Tn B w tb c zs ts) (hb : Below w.heap.size w wr) {n : Nat} {t : Txd} (ht : ts[n]? = some t) :
    ∃ gx zc1 gv zc2, TxC wr tb (n * 6) t (.slice (some ⟨gx, 0, none⟩) t.xs.length zc1) (.slice (some ⟨gv, 0, none⟩) t.vs.length zc2) ∧ t.xs.length + 5 ≤ zc1 ∧ t.vs.length + 5 ≤ zc2 ∧
      (∀ (m : Nat) (W : World), m < 5 → Below w.heap.size w W → W.cell? ⟨gx, (t.xs.length + m) * 8, none⟩ = some (.int .i64 (60 + (m : Int))) ∧ W.cell? ⟨gv, (t.vs.length + m) * 3, none⟩ = some (.int .i64 (50 + (m : Int)))) := by
  obtain ⟨z, hz, hzt, hc⟩ := (h.below hb).get ht
  obtain ⟨⟨gx, cux, ex1, -, -, ex4, ex5, ex6⟩, ⟨gv, cuv, ev1, -, -, ev4, ev5, ev6⟩⟩ := h.zl z hz
  obtain ⟨tz, za1, zc1, za2, zc2⟩ := z
  dsimp only [Tx2.S1, Tx2.S2] at *
  subst hzt ex1 ev1
  exact ⟨gx, zc1, gv, zc2, hc, ex4, ev4, fun m W hm hW => ⟨((ex6 _ _ (iMark_at tz.xs m hm)).same (hW.block gx (lt_of ex5))).1, ((ev6 _ _ (vMark_at tz.vs m hm)).same (hW.block gv (lt_of ev5))).1⟩⟩

theorem tn_mark {B : Nat} {w wr : World} {tb c : Nat} {zs : List Tx2} {ts : List Txd} (h : Tn B w tb c zs ts) (hb : Below w.heap.size w wr) {m : Nat} (hm : m < 5) : wr.cell? ⟨tb, (ts.length + m) * 6, none⟩ = some (.int .i64 (70 + (m : Int))) := by
  have hz : zs.length = ts.length := by rw [← h.hz, List.length_map]
  have := (h.below hb).at' (ts.length + m) (tMark m) (by rw [← hz]; exact tMark_at zs m hm)
  exact this.1

theorem five {n c : Nat} (h : n ≤ 300) (hc : n + 5 ≤ c) : wrap64 ((n : Int) + 5) = (n : Int) + 5 ∧ ((n : Int) + 5).toNat = n + 5 ∧ (n : Int) + 5 ≤ (c : Int) := by
  refine ⟨?_, by omega, by omega⟩
  unfold wrap64
  omega

theorem far {n m : Nat} (h : n ≤ 300) (hm : m < 5) : ((n + m : Nat) : Int) < (n : Int) + 5 ∧ (n : Int) ≤ ((n + m : Nat) : Int) ∧ decide (((n + m : Nat) : Int) < (n : Int)) = false ∧ (n : Int) + (m : Int) < (n : Int) + 5 ∧ wrap64 (70 + ((n : Int) + (m : Int))) = 70 + ((n : Int) + (m : Int)) ∧ wrap64 (70 + ((n : Int) + (m : Int)) - (n : Int)) = 70 + (m : Int) ∧ 0 ≤ (n : Int) + (m : Int) := by
  refine ⟨by omega, by omega, by simp; omega, by omega, ?_, ?_, by omega⟩ <;> (unfold wrap64; omega)

theorem near {n m : Nat} (h : n ≤ 300) (hm : m < 5) : wrap64 (n : Int) = n ∧ wrap64 ((n : Int) + m) = (n : Int) + m ∧ (n : Int) + m < (n : Int) + 5 ∧ 0 ≤ (n : Int) + m ∧ ((n : Int) + m).toNat = n + m ∧ wrap64 (50 + (m : Int)) = 50 + (m : Int) ∧ wrap64 (60 + (m : Int)) = 60 + (m : Int) := by
  have e : ∀ a : Int, 0 ≤ a → a ≤ 1000 → wrap64 a = a := fun a h0 h1 => by unfold wrap64; omega
  exact ⟨e _ (by omega) (by omega), e _ (by omega) (by omega), by omega, by omega, by omega, e _ (by omega) (by omega), e _ (by omega) (by omega)⟩

set_option maxRecDepth 100000 in
set_option maxHeartbeats 8000000 in
theorem stands_any (B : Nat) (f : Int) (tb c : Nat) (zs : List Tx2) (ts : List Txd) (S : Value) (w : World) (h : Tn B w tb c zs ts) (hS : TsAt 0 w S ts) (hs : Sma ts) :
    Calls Tryz.prog 10 #[.agg #[.int .i64 f, .slice (some ⟨tb, 0, none⟩) ts.length c], .agg #[.int .i64 f, S]] w fun e w' => e = .returned (.bool true) ∧ Below w.heap.size w w' := by
  have H0 := hid (sq_start w f (.slice (some ⟨tb, 0, none⟩) ts.length c) f S)
  have HT := hid h
  have HS := hid hS
  have hl3 : ts.length ≤ 300 := hs.1
  have HSM := hid hs
  have HE := hid (fun W (hb : Below w.heap.size w W) => bsame_any 0 0 f _ ts f _ ts W (HT.out.ts.below hb) (HS.out.below hb) (sma_L HSM.out) (by omega))
  rw [decide_eq_true ⟨rfl, rfl⟩] at HE
  have hc' : (ts.length : Int) + 5 ≤ (c : Int) := by have := h.hc; omega
  have hz : zs.length = ts.length := by rw [← h.hz, List.length_map]
  have HZ := hid hz
  obtain ⟨ao, c2, rfl, hc2, hcells⟩ := hS
  have HC := hid hcells
  have hw5 : wrap64 ((ts.length : Int) + 5) = (ts.length : Int) + 5 := by unfold wrap64; omega
  have ht5 : ((ts.length : Int) + 5).toNat = ts.length + 5 := by omega
  have HW := hid (And.intro hw5 ht5)
  clear h hs hz hcells hc2
  go_enter Tryz.func10, Tryz.ntmps10
  go_wp2_with (go_at_call 17
               refine (HE.out _ H0.out.hb).mono ?_
               rintro e w1 ⟨rfl, hb1⟩
               have H1 := hid (H0.out.below hb1)
               obtain ⟨p0, p1, -⟩ := vfacts2 H1.out.r0
               obtain ⟨q0, q1, -⟩ := vfacts2 H1.out.r1
               clear hb1)
  go_loopw [6] (fun ix wr => ∃ (n : Nat), n ≤ ts.length + 5 ∧ ix = .int .i64 n ∧ Hid (Sq w wr f (.slice (some ⟨tb, 0, none⟩) ts.length c) f (.slice ao ts.length c2))) (fun ix _ => ts.length + 5 - (intOf ix).toNat)
  case atStart => exact ⟨0, Nat.zero_le _, rfl, H1⟩
  case round =>
    clear H0 H1 HE p0 p1 q0 q1 hw5 ht5
    obtain ⟨n, hn, rfl, hP⟩ := hrel
    obtain ⟨q0, q1, -⟩ := vfacts2 hP.out.r1
    by_cases hlt : n < ts.length
    · obtain ⟨t, ht⟩ : ∃ t, ts[n]? = some t := ⟨_, List.getElem?_eq_getElem hlt⟩
      obtain ⟨gx, zc1, gv, zc2, hc, ex4, ev4, hmk⟩ := tn_round HT.out hP.out.hb ht
      obtain ⟨b, off, rfl, -, hat⟩ := HC.out (by intro e; rw [e] at hlt; simp at hlt)
      obtain ⟨S1, S2, hcb, hS1, hS2⟩ := hat n t ht
      obtain ⟨g0, g1, g2, g3, g4, g5⟩ := hcb.same (hP.out.hb.block b hcb.lt)
      obtain ⟨a1, cc1, rfl⟩ := hS1.form
      obtain ⟨a2, cc2, rfl⟩ := hS2.form
      obtain ⟨hm1, hm2⟩ := HSM.out.2 t (List.mem_of_getElem? ht)
      have HMK := hid hmk
      obtain ⟨d0, d1, d2, d3, d4, d5⟩ := hc
      have hlt1 : (n : Int) < (ts.length : Int) + 5 := by omega
      have hlt2 : (n : Int) < (ts.length : Int) := by omega
      have hge : decide ((ts.length : Int) ≤ (n : Int)) = false := by simp; omega
      obtain ⟨hx5, hx6, hx7⟩ := five hm2 ex4
      obtain ⟨hv5, hv6, hv7⟩ := five hm1 ev4
      have HM := hid (And.intro hm1 hm2)
      clear hat hcb hS1 hS2 ht hmk ex4 ev4 hm1 hm2
      go_upto_region 10 with fail
      go_quiet (fail)
      go_wp2
      go_quiet (fail)
      go_wp2
      clear d0 d1 d2 d3 d4 d5 g0 g1 g2 g3 g4 g5 hx5 hx6 hx7 hv5 hv6 hv7 q0 q1
      go_loopw [9] (fun iy wz => ∃ (m : Nat), m ≤ 5 ∧ iy = .int .i64 m ∧ Hid (Sq w wz f (.slice (some ⟨tb, 0, none⟩) ts.length c) f (.slice (some ⟨b, off, none⟩) ts.length c2))) (fun iy _ => 5 - (intOf iy).toNat)
      case atStart => exact ⟨0, Nat.zero_le _, rfl, hid ((hP.out.below (Below.drewN0 _ _)).below (Below.drewN0 _ _))⟩
      case round =>
        rename World => wz
        obtain ⟨m, hm, rfl, hQ⟩ := hrel
        by_cases h5 : m < 5
        · obtain ⟨x0, v0⟩ := HMK.out m wz h5 hQ.out.hb
          have h5' : (m : Int) < 5 := by omega
          have HA := hid (And.intro hn (And.intro hlt (And.intro hm h5)))
          clear hn hlt hm h5 hlt1 hlt2 hge hl3 hc'
          obtain ⟨j1, j2, -, -, j5, -, -⟩ := near (n := t.xs.length) (m := m) HM.out.2 HA.out.2.2.2
          obtain ⟨k1, k2, -, -, k5, -, -⟩ := near (n := t.vs.length) (m := m) HM.out.1 HA.out.2.2.2
          go_wp2
          clear j1 j2 j5 k1 k2 k5
          obtain ⟨hn, hlt, hm, h5⟩ := HA.out
          go_roundw
          case rel => first | exact ⟨m + 1, by omega, by go_num, hQ⟩ | ((repeat apply Exists.intro); exact ⟨⟨m + 1, by omega, by go_num, hQ⟩, rfl⟩)
          case measure => simp [intOf]; omega
        · obtain rfl : m = 5 := by omega
          go_wp2
          go_roundw
          case rel => first | exact ⟨n + 1, by omega, by go_num, hQ⟩ | ((repeat apply Exists.intro); exact ⟨⟨n + 1, by omega, by go_num, hQ⟩, rfl⟩)
          case measure => simp [intOf]; omega
    · obtain ⟨m, rfl⟩ : ∃ m, n = ts.length + m := ⟨n - ts.length, by omega⟩
      by_cases h5 : m < 5
      · have hk := tn_mark HT.out hP.out.hb h5
        obtain ⟨j1, j2, j3, j4, j5, j6, j7⟩ := far (n := ts.length) (m := m) hl3 h5
        clear hlt hn
        go_wp2
        go_quiet (fail)
        go_wp2
        clear j1 j2 j3 j4 j5 j6 j7
        go_roundw
        case rel => first | exact ⟨ts.length + m + 1, by omega, by go_num, hid (hP.out.below (Below.drewN0 _ _))⟩ | ((repeat apply Exists.intro); exact ⟨⟨ts.length + m + 1, by omega, by go_num, hid (hP.out.below (Below.drewN0 _ _))⟩, rfl⟩)
        case measure => simp [intOf]; omega
      · obtain rfl : m = 5 := by omega
        have hd : decide (((ts.length + 5 : Nat) : Int) < (ts.length : Int) + 5) = false := by simp
        go_wp2
        go_ret
        exact ⟨rfl, hP.out.hb⟩

end Go.Proofs.YtdnlfacfleemeaaGreat
