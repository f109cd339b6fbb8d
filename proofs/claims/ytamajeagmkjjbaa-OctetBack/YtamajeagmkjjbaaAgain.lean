import Derived.Test.YtamajeagmkjjbaaHlp
namespace Go.Proofs.Ytamajeagmkjjbaa
open Go.RowKit

/-- A Reader at p (its bytes in gd) and a Writer at z (its data in g), each its own. -/
structure AS (w0 w : World) (p gd z : Nat) (g : Option Nat) (bs : List Int) (a : Nat) (e : Int) (acc : List Int) (ew : Int) : Prop where
  rd : Rd w p (some gd) bs a e
  wr : Wr w0.heap.size w z g acc ew
  bel : Below w0.heap.size w0 w
  ge : w0.heap.size ≤ gd ∧ w0.heap.size ≤ p ∧ w0.heap.size ≤ z
  ne : p ≠ z ∧ gd ≠ z ∧ g ≠ some p ∧ g ≠ some gd
  lt : p < w.heap.size ∧ gd < w.heap.size ∧ z < w.heap.size

theorem AS.still {w0 w w' : World} {p gd z : Nat} {g : Option Nat} {bs : List Int} {a : Nat} {e : Int} {acc : List Int} {ew : Int} (h : AS w0 w p gd z g bs a e acc ew) (hb : Below w.heap.size w w') : AS w0 w' p gd z g bs a e acc ew := by
  have hk := Kept.ofBelow hb
  have hz := hb.size
  obtain ⟨l1, l2, l3⟩ := h.lt
  exact ⟨rd_below h.rd hb, h.wr.kept hk (fun h => h) (fun _ _ h => h), h.bel.trans (hb.mono h.bel.size), h.ge, h.ne, by omega, by omega, by omega⟩

theorem AS.take {w0 w w' : World} {p gd z : Nat} {g : Option Nat} {bs : List Int} {a a2 : Nat} {e e2 : Int} {acc : List Int} {ew : Int} (h : AS w0 w p gd z g bs a e acc ew) (hs : RdStep p (some gd) w w' bs a2 e2) : AS w0 w' p gd z g bs a2 e2 acc ew := by
  obtain ⟨h1, hk⟩ := hs
  have hz := hk.size
  obtain ⟨l1, l2, l3⟩ := h.lt
  obtain ⟨n1, n2, n3, n4⟩ := h.ne
  refine ⟨h1, h.wr.kept hk (fun e => n1 e.symm) (fun k hk2 e => n3 (by rw [hk2, e])), h.bel.trans (hk.below h.bel.size ?_), h.ge, h.ne, by omega, by omega, by omega⟩
  intro k hk2 e
  have := h.ge.2.1
  omega

theorem AS.lay {w0 w w' : World} {p gd z : Nat} {g : Option Nat} {bs : List Int} {a : Nat} {e : Int} {acc acc2 : List Int} {ew ew2 : Int} (h : AS w0 w p gd z g bs a e acc ew) (hs : WrStep w0.heap.size z g w w' acc2 ew2) : ∃ g', AS w0 w' p gd z g' bs a e acc2 ew2 := by
  obtain ⟨g', h1, hg, hk⟩ := hs
  have hz := hk.size
  have hgl := h.wr.glt
  obtain ⟨l1, l2, l3⟩ := h.lt
  obtain ⟨n1, n2, n3, n4⟩ := h.ne
  obtain ⟨g1, g2, g3⟩ := h.ge
  refine ⟨g', h.rd.kept hk ?_ ?_, h1, h.bel.trans (hk.below h.bel.size ?_), h.ge, ⟨n1, n2, ?_, ?_⟩, by omega, by omega, by omega⟩
  · rintro (e | e)
    · exact n1 e
    · exact n3 e
  · intro k hk2
    injection hk2 with hk2
    subst hk2
    rintro (e | e)
    · exact n2 e
    · exact n4 e
  · rintro k hk2 (e | e)
    · omega
    · have := hgl k e; omega
  · rcases hg with rfl | ⟨j, h2, rfl⟩
    · exact n3
    · intro e; injection e with e; omega
  · rcases hg with rfl | ⟨j, h2, rfl⟩
    · exact n4
    · intro e; injection e with e; omega

theorem lay_got (B z : Nat) (g : Option Nat) (acc acc2 : List Int) (w : World) (x : It) (u i : Int) (s : List Int) (n : Int) (h : Wr B w z g acc 0) (hB : B ≤ w.heap.size) (hx : (x.got (u, i, s)).ok ∧ (x.got (u, i, s)).s.size ≤ 1000000000) (hl : acc.length ≤ 1000000000) (hn : (if x.kind = 3 then i else x.n) = n) (hz : layZ (acc, 0) (x.got (u, i, s)) = (acc2, 0)) :
    Calls Try.prog 11 #[.pointer (some ⟨z, 0, none⟩), .agg #[.int .i64 x.kind, .int .i64 n, .int .u64 u, .int .i64 i, .string (mkStr s)]] w fun y w' => y = .returned (.tuple #[]) ∧ WrStep B z g w w' acc2 0 := by
  have := lay_any B z g acc 0 w (x.got (u, i, s)) h hB hx.1 hx.2 hl
  rw [hz] at this
  subst hn
  exact this

theorem wdataT (B p : Nat) (g : Option Nat) (bs : List Int) (e : Int) (n : Nat) (w : World) (h : Wr B w p g bs e) (hn : bs.length = n) (hl : n ≤ 1000000000) :
    Calls Try.prog 14 #[.pointer (some ⟨p, 0, none⟩)] w fun x w' => x = .returned (.slice (some ⟨w.heap.size, 0, none⟩) n n) ∧ Own w' w.heap.size bs ∧ Below w.heap.size w w' := by
  subst hn
  exact wdata_any B p g bs e w h hl

theorem Own.slN {w : World} {g : Nat} {bs : List Int} {n : Nat} (h : Own w g bs) (hn : bs.length = n) (hl : n ≤ 1000000000) : Sl w (.slice (some ⟨g, 0, none⟩) n n) bs := by
  subst hn
  exact h.sl hl

set_option maxRecDepth 100000 in
set_option maxHeartbeats 4000000 in
theorem again_any (vb v : Value) (bs : List Int) (its : List It) (w : World) (hsl : Sl w vb bs) (hoct : Oct bs) (hbs : bs.length ≤ 100000) (h : Its w v its) (hn : its.length ≤ 300) :
    Calls Try.prog 22 #[vb, v] w fun x w' => x = .returned (.bool true) ∧ Below w.heap.size w w' := by
  have HS := hid hsl
  have HO := hid hoct
  obtain ⟨ao, cap, hv, hc, hcm, hok, hcells⟩ := h
  subst hv
  have Hcl := hid hcells
  have Hok := hid hok
  clear hcells hok hoct hsl
  go_enter Try.func22, Try.ntmps22
  go_wp2_with fail
  refine (read_any vb bs _ HS.out HO.out (by omega)).mono ?_
  rintro x w1 ⟨p, rfl, hp, hrd, hb1⟩
  have hz1 := hb1.size
  have hpl : p < w1.heap.size := ltBlock hrd.choose_spec.1
  have HR1 := hid hrd
  have HB1 := hid hb1
  clear hrd hb1
  go_wp2
  obtain ⟨W, hW⟩ : ∃ W, W = w1.alloc (.cells #[.slice none 0 0, .int .i64 0] 29) := ⟨_, rfl⟩
  have hA0 : AS w W p w.heap.size w1.heap.size none bs 0 0 (bs.take 0) 0 := by
    rw [hW]
    exact ⟨rd_below HR1.out ((Below.refl _ _).alloc (Nat.le_refl _) _), by rw [List.take_zero]; exact wr_new _ w1 hz1, HB1.out.alloc hz1 _, ⟨by omega, by omega, by omega⟩, ⟨by omega, by omega, by simp, by simp⟩, by simp; omega, by simp; omega, by simp⟩
  rw [← hW]
  have H0 := hid hA0
  clear hA0 hW HR1 HB1
  generalize hzz : w1.heap.size = z at *
  generalize hgd : w.heap.size = gd at H0
  clear hzz
  go_loopw [7] (fun i wr => ∃ (k a : Nat) (g : Option Nat), k ≤ its.length ∧ i = .int .i64 k ∧ AS w wr p gd z g bs a 0 (bs.take a) 0)
    (fun i _ => its.length - (intOf i).toNat)
  case atStart => exact ⟨0, 0, none, Nat.zero_le _, rfl, H0.out⟩
  case round =>
    clear H0
    obtain ⟨k, a, g, hk, rfl, has⟩ := hrel
    have hab : a ≤ bs.length := by obtain ⟨_, _, _, _, _, _, h, _⟩ := has.rd; exact h
    by_cases hlt : k < its.length
    · obtain ⟨b, off, rfl, hj⟩ := Hcl.out (by intro e; subst e; simp at hlt)
      have hcx := hj k its[k] (by simp [hlt])
      have hxok := Hok.out its[k] (List.getElem_mem hlt)
      obtain ⟨x, hxe⟩ : ∃ x, x = its[k] := ⟨_, rfl⟩
      rw [← hxe] at hcx hxok
      have HX := hid hxok
      obtain ⟨⟨⟨u, i, s⟩, a2, e2⟩, hz⟩ : ∃ z, itZ x bs a 0 = z := ⟨_, rfl⟩
      have HZ := hid hz
      have hbd := itZ_bd x bs a 0 HO.out
      rw [hz] at hbd
      have HBD := hid hbd
      have her := itZ_err x bs a 0
      rw [hz] at her
      have HER := hid her
      clear hz hbd her
      have hIt : ∀ wx : World, Below w.heap.size w wx → It.at wx b (off + k * 5) x := fun wx hb => by
        obtain ⟨c0, c1, c2, c3, c4⟩ := hcx
        exact ⟨(hb.cell (World.block_lt_of_cell? _ _ c0)).trans c0, (hb.cell (World.block_lt_of_cell? _ _ c1)).trans c1, (hb.cell (World.block_lt_of_cell? _ _ c2)).trans c2, (hb.cell (World.block_lt_of_cell? _ _ c3)).trans c3, (hb.cell (World.block_lt_of_cell? _ _ c4)).trans c4⟩
      have HIt := hid hIt
      obtain ⟨c0, c1, c2, c3, c4⟩ := hIt wr has.bel
      have HA := hid has
      clear hIt hcx hj hxok hxe has
      go_wp2_with fail
      refine (tkB p (some gd) bs a 0 _ x HA.out.rd HA.out.lt.1 HX.out u i s a2 e2 HZ.out).mono ?_
      rintro y wt ⟨rfl, hst⟩
      have HT := hid (HA.out.take hst)
      clear hst HA c0 c1 c2 c3 c4
      generalize hsb : mkStr s = sb
      have HSB := hid hsb
      clear hsb
      go_wp2_with fail
      obtain ⟨w3, hw3⟩ : ∃ w3, w3 = wt.alloc (.cells #[.int .u64 u, .int .i64 i, .string sb] 48) := ⟨_, rfl⟩
      rw [← hw3]
      have hG : w3.heap[wt.heap.size]? = some (.cells #[.int .u64 u, .int .i64 i, .string sb] 48 (0, 0)) := by rw [hw3]; exact heap_alloc_new wt _
      have hbw : Below wt.heap.size wt w3 := by rw [hw3]; exact (Below.refl _ _).alloc (Nat.le_refl _) _
      have H3 := hid (HT.out.still hbw)
      have HG := hid hG
      clear hw3 hG hbw HT
      generalize wt.heap.size = G at *
      refine (rerr_any p (some gd) bs a2 e2 _ H3.out.rd).mono ?_
      rintro y w5 ⟨hd5, rfl⟩
      have hb5 := drawnBelow hd5 w3.heap.size
      have H5 := hid (H3.out.still hb5)
      have hG5 := (hb5.block _ (ltBlock HG.out)).trans HG.out
      have HG5 := hid hG5
      clear hd5 hb5 H3 HG hG5
      by_cases he : e2 = 0
      · subst he
        have hag := again_one x bs (bs.take a) HO.out a a2 (u, i, s) hab HZ.out
        rw [take_more bs a a2 hag.1] at hag
        have HAG := hid hag
        clear hag
        obtain ⟨c0, c1, c2, c3, c4⟩ := HIt.out w5 H5.out.bel
        obtain ⟨m0, m1, m2⟩ := cell_of_three HG5.out
        have hGl : G < w5.heap.size := ltBlock HG5.out
        have hbl5 : b < w5.heap.size := World.block_lt_of_cell? _ _ c0
        have ne1 : G ≠ w5.heap.size := by omega
        have ne2 : b ≠ w5.heap.size := by omega
        clear HG5
        have HW := hid (fun o => H5.out.still ((Below.refl _ w5).alloc (Nat.le_refl _) o))
        have HGO := hid (got_ok x HX.out (u, i, s) HBD.out.1 HBD.out.2.1 (Nat.le_trans HBD.out.2.2 (by omega)))
        have HLT := hid (show (bs.take a).length ≤ 1000000000 by rw [List.length_take]; omega)
        by_cases hk3 : x.kind = 3
        · have hk3' : (x.kind == 3) = true := by simpa using hk3
          have HN3 := hid (show (if x.kind = 3 then i else x.n) = i from if_pos hk3)
          clear hk3
          go_wp2_with fail
          rw [← HSB.out]
          obtain ⟨W6, hW6⟩ : ∃ W6, W6 = w5.alloc (.cells #[.int .i64 x.kind, .int .i64 i, .int .u64 u, .int .i64 i, .string (mkStr s)] 35) := ⟨_, rfl⟩
          rw [← hW6]
          have HA6 : Hid (AS w W6 p gd z g bs a2 0 (bs.take a) 0) := by rw [hW6]; exact hid (HW.out _)
          clear hW6 HW
          refine (lay_got w.heap.size z g (bs.take a) (bs.take a2) W6 x u i s i HA6.out.wr HA6.out.bel.size HGO.out HLT.out HN3.out HAG.out.2.2).mono ?_
          rintro y w6 ⟨rfl, hst⟩
          obtain ⟨g2, has6⟩ := HA6.out.lay hst
          have H6 := hid has6
          clear hst has6 c0 c1 c2 c3 c4 m0 m1 m2 HA6
          go_wp2
          go_roundw
          case rel => first | exact ⟨k + 1, a2, g2, by omega, by go_num, H6.out⟩ | ((repeat apply Exists.intro); exact ⟨⟨k + 1, a2, g2, by omega, by go_num, H6.out⟩, rfl⟩)
          case measure => simp [intOf]; omega
        · have hk3' : (x.kind == 3) = false := by simpa using hk3
          have HN3 := hid (show (if x.kind = 3 then i else x.n) = x.n from if_neg hk3)
          clear hk3
          go_wp2_with fail
          rw [← HSB.out]
          obtain ⟨W6, hW6⟩ : ∃ W6, W6 = w5.alloc (.cells #[.int .i64 x.kind, .int .i64 x.n, .int .u64 u, .int .i64 i, .string (mkStr s)] 35) := ⟨_, rfl⟩
          rw [← hW6]
          have HA6 : Hid (AS w W6 p gd z g bs a2 0 (bs.take a) 0) := by rw [hW6]; exact hid (HW.out _)
          clear hW6 HW
          refine (lay_got w.heap.size z g (bs.take a) (bs.take a2) W6 x u i s x.n HA6.out.wr HA6.out.bel.size HGO.out HLT.out HN3.out HAG.out.2.2).mono ?_
          rintro y w6 ⟨rfl, hst⟩
          obtain ⟨g2, has6⟩ := HA6.out.lay hst
          have H6 := hid has6
          clear hst has6 c0 c1 c2 c3 c4 m0 m1 m2 HA6
          go_wp2
          go_roundw
          case rel => first | exact ⟨k + 1, a2, g2, by omega, by go_num, H6.out⟩ | ((repeat apply Exists.intro); exact ⟨⟨k + 1, a2, g2, by omega, by go_num, H6.out⟩, rfl⟩)
          case measure => simp [intOf]; omega
      · have he2 : (e2 != 0) = true := by simpa using he
        obtain rfl : a = a2 := (HER.out he).symm
        rw [if_neg he]
        have hla : (bs.take a).length = a := by rw [List.length_take]; omega
        obtain ⟨rv, hsl, hrv, -⟩ := sl_to (HS.out.below H5.out.bel) a (by omega)
        have hlb := fun wx => sl_len (HS.out) wx
        obtain ⟨acc, hacc⟩ : ∃ acc, acc = bs.take a := ⟨_, rfl⟩
        rw [← hacc] at hla hrv
        have HA2 := H5.out
        rw [← hacc] at HA2
        have HA := hid HA2
        have HRV := hid hrv
        have ha0 : (0 : Int) ≤ (a : Int) := by omega
        have ha1 : (a : Int) ≤ (bs.length : Int) := by omega
        have ha2 : (bs.length : Int) ≤ 100000 := by omega
        have ha3 : (bs.length : Int) - ((bs.length : Int) - (a : Int)) = (a : Int) := by omega
        have HLA := hid hla
        clear HA2 hrv hacc hla H5
        go_wp2_with fail
        refine (wdataT _ z g acc 0 a _ HA.out.wr HLA.out (by omega)).mono ?_
        rintro x w8 ⟨rfl, hown, hb8⟩
        have HA8 := hid (HA.out.still hb8)
        have HRV8 := hid (HRV.out.below hb8)
        have HO8 := hid (hown.slN HLA.out (by omega))
        clear hb8 hown HA HRV
        go_wp2_with (first | (go_at_call 15; refine (werr_any _ z g acc 0 _ HA8.out.wr).mono ?_; rintro e w' ⟨rfl, hww⟩; have hww2 := hww.symm; clear hww; subst hww2) | (go_at_call 26; refine (left_any p (some gd) bs a _ _ HA8.out.rd).mono ?_; rintro e w9 ⟨hd9, rfl⟩; have hb9 := drawnBelow hd9 w8.heap.size; have HA9 := hid (HA8.out.still hb9); have HRV9 := hid (HRV8.out.below hb9); have HO9 := hid (HO8.out.below hb9); clear hd9 hb9) | (go_at_call 13; refine (bytesEq _ _ acc _ HO9.out HRV9.out (by rw [HLA.out]; omega)).mono ?_; rintro e w10 ⟨hd10, rfl⟩; have HB10 := hid (HA9.out.bel.trans ((drawnBelow hd10 _).mono (Nat.le_refl _))); clear hd10))

        go_ret
        exact ⟨rfl, HB10.out⟩
    · obtain rfl : k = its.length := by omega
      have H5 := hid has
      clear has
      have hla : (bs.take a).length = a := by rw [List.length_take]; omega
      obtain ⟨rv, hsl, hrv, -⟩ := sl_to (HS.out.below H5.out.bel) a (by omega)
      have hlb := fun wx => sl_len (HS.out) wx
      obtain ⟨acc, hacc⟩ : ∃ acc, acc = bs.take a := ⟨_, rfl⟩
      rw [← hacc] at hla hrv
      have HA2 := H5.out
      rw [← hacc] at HA2
      have HA := hid HA2
      have HRV := hid hrv
      have ha0 : (0 : Int) ≤ (a : Int) := by omega
      have ha1 : (a : Int) ≤ (bs.length : Int) := by omega
      have ha2 : (bs.length : Int) ≤ 100000 := by omega
      have ha3 : (bs.length : Int) - ((bs.length : Int) - (a : Int)) = (a : Int) := by omega
      have HLA := hid hla
      clear HA2 hrv hacc hla H5
      go_wp2_with fail
      refine (wdataT _ z g acc 0 a _ HA.out.wr HLA.out (by omega)).mono ?_
      rintro x w8 ⟨rfl, hown, hb8⟩
      have HA8 := hid (HA.out.still hb8)
      have HRV8 := hid (HRV.out.below hb8)
      have HO8 := hid (hown.slN HLA.out (by omega))
      clear hb8 hown HA HRV
      go_wp2_with (first | (go_at_call 15; refine (werr_any _ z g acc 0 _ HA8.out.wr).mono ?_; rintro e w' ⟨rfl, hww⟩; have hww2 := hww.symm; clear hww; subst hww2) | (go_at_call 26; refine (left_any p (some gd) bs a _ _ HA8.out.rd).mono ?_; rintro e w9 ⟨hd9, rfl⟩; have hb9 := drawnBelow hd9 w8.heap.size; have HA9 := hid (HA8.out.still hb9); have HRV9 := hid (HRV8.out.below hb9); have HO9 := hid (HO8.out.below hb9); clear hd9 hb9) | (go_at_call 13; refine (bytesEq _ _ acc _ HO9.out HRV9.out (by rw [HLA.out]; omega)).mono ?_; rintro e w10 ⟨hd10, rfl⟩; have HB10 := hid (HA9.out.bel.trans ((drawnBelow hd10 _).mono (Nat.le_refl _))); clear hd10))

      go_ret
      exact ⟨rfl, HB10.out⟩

end Go.Proofs.Ytamajeagmkjjbaa
