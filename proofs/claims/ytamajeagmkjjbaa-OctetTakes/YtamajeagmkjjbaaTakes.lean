import Derived.Test.YtamajeagmkjjbaaKnown
import Derived.Test.YtamajeagmkjjbaaMuch
import Derived.Test.YtamajeagmkjjbaaArgs
import Derived.Test.YtamajeagmkjjbaaR5
import Derived.Test.YtamajeagmkjjbaaB2
import Derived.Test.YtamajeagmkjjbaaNothing
import Derived.Test.YtamajeagmkjjbaaBrow
namespace Go.Proofs.Ytamajeagmkjjbaa
open Go.RowKit

theorem bytes_same (a b : Value) (xs : List Int) (w : World) (ha : Sl w a xs) (hb : Sl w b xs) (hl : xs.length ≤ 1000000000) :
    Calls Try.prog 13 #[a, b] w fun x w' => DN w w' ∧ x = .returned (.bool true) := by
  have := bytes_any a b xs xs w ha hb hl
  rwa [show decide (xs = xs) = true by simp] at this

theorem tkT (p : Nat) (g : Option Nat) (bs : List Int) (a : Nat) (e : Int) (w : World) (x : It) (h : Rd w p g bs a e) (hp : p < w.heap.size) (hx : x.ok) (u i : Int) (s : List Int) (a2 : Nat) (e2 : Int) (hz : itZ x bs a e = ((u, i, s), a2, e2)) :
    Calls Try.prog 19 #[.pointer (some ⟨p, 0, none⟩), .agg #[.int .i64 x.kind, .int .i64 x.n, .int .u64 x.u, .int .i64 x.i, .string x.s]] w fun y w' => y = .returned (.agg #[.int .u64 u, .int .i64 i, .string (mkStr s)]) ∧ RdStep p g w w' bs a2 e2 := by
  have := tk_any p g bs a e w x h hp hx
  rw [hz] at this
  exact this

theorem takenT (v : Value) (bs : List Int) (a : Nat) (e st : Int) (x : It) (w : World) (h : Sl w v bs) (ho : Oct bs) (hl : bs.length ≤ 1000000000) (ha : a ≤ bs.length) (hst : e ≠ 0 → st = a) (hx : x.ok) (u i : Int) (s : List Int) (a2 : Nat) (e2 : Int) (hz : itZ x bs a e = ((u, i, s), a2, e2)) :
    Calls Try.prog 20 #[.agg #[v, .int .i64 a, .int .i64 e, .int .i64 st], .agg #[.int .i64 x.kind, .int .i64 x.n, .int .u64 x.u, .int .i64 x.i, .string x.s]] w fun y w' =>
      ∃ st2, y = .returned (.tuple #[.agg #[.int .u64 u, .int .i64 i, .string (mkStr s)], .agg #[v, .int .i64 a2, .int .i64 e2, .int .i64 st2]]) ∧ (e2 ≠ 0 → st2 = a2) ∧ Below w.heap.size w w' := by
  have := taken_any v bs a e st x w h ho hl ha hst hx
  rw [hz] at this
  exact this

/-- Behind the drawn region: the new Reader lies at P, what was taken at Q. -/
def NB2 (W w3 : World) (P Q : Nat) (v : Value) (a2 : Nat) (e2 st2 : Int) (u i : Int) (s : ByteArray) : Prop := Below w3.heap.size w3 W ∧ (W.cell? ⟨P, 0, none⟩ = some v ∧ W.cell? ⟨P, 1, none⟩ = some (.int .i64 a2) ∧ W.cell? ⟨P, 2, none⟩ = some (.int .i64 e2) ∧ W.cell? ⟨P, 3, none⟩ = some (.int .i64 st2)) ∧ (W.cell? ⟨Q, 0, none⟩ = some (.int .u64 u) ∧ W.cell? ⟨Q, 1, none⟩ = some (.int .i64 i) ∧ W.cell? ⟨Q, 2, none⟩ = some (.string s))

/-- The walk's document Reader, written over. -/
theorem storeT {w' W W2 : World} {q p gd : Nat} {v : Value} {bs : List Int} {a a2 : Nat} {e st e2 st2 : Int} (hq : W.heap[q]? = some (.cells #[v, .int .i64 a, .int .i64 e, .int .i64 st] 44 (0, 0))) (hr : Rd W p (some gd) bs a2 e2) (hb : Below w'.heap.size w' W) (hlt : w'.heap.size ≤ q) (h1 : p < q) (h2 : gd < q)
    (h : W2 = (((W.setCell ⟨q, 0, none⟩ v).setCell ⟨q, 1, none⟩ (.int .i64 a2)).setCell ⟨q, 2, none⟩ (.int .i64 e2)).setCell ⟨q, 3, none⟩ (.int .i64 st2)) :
    W2.heap[q]? = some (.cells #[v, .int .i64 a2, .int .i64 e2, .int .i64 st2] 44 (0, 0)) ∧ Rd W2 p (some gd) bs a2 e2 ∧ Below w'.heap.size w' W2 := by
  have hK : Kept (fun k => k = q) W W2 := by
    rw [h]
    exact ((((Kept.refl (fun k => k = q) W).setCell (p := ⟨q, 0, none⟩) (fun _ => rfl) _).setCell (p := ⟨q, 1, none⟩) (fun _ => rfl) _).setCell (p := ⟨q, 2, none⟩) (fun _ => rfl) _).setCell (p := ⟨q, 3, none⟩) (fun _ => rfl) _
  refine ⟨?_, hr.kept hK (by omega) (by intro k hk; injection hk with hk; omega), hb.trans (hK.below hb.size (by intro k hk; omega))⟩
  rw [h]
  simp [World.setCell, Array.getElem?_modify, hq]

theorem snNew (w : World) (a b : Int) : Sn (w.alloc (.cells #[.int .u8 a, .int .u8 b] 5)) (.slice (some ⟨w.heap.size, 0, none⟩) 2 2) [a, b] :=
  ⟨(show Own _ w.heap.size [a, b] from heap_alloc_new w _).sl (by simp), .inr ⟨_, _, _, rfl⟩⟩

set_option maxRecDepth 100000 in
set_option maxHeartbeats 4000000 in
theorem takes_any (vb v : Value) (bs : List Int) (its : List It) (w : World) (hsn : Sn w vb bs) (hoct : Oct bs) (hbl : bs.length ≤ 9223372036854775807) (h : Its w v its) :
    Calls Try.prog 4 #[vb, v] w fun x w' => x = .returned (.bool true) ∧ Below w.heap.size w w' := by
  obtain ⟨aob, capb, rfl⟩ := hsn.form
  have HS := hid hsn
  clear hsn
  have HO := hid hoct
  have HM := hid (much_any v its aob bs.length capb w h hbl)
  obtain ⟨ao, cap, hv, hc, hcm, hok, hcells⟩ := h
  subst hv
  have Hcl := hid hcells
  have Hok := hid hok
  clear hcells hok hoct
  go_enter Try.func4, Try.ntmps4
  go_wp2_with fail
  refine HM.out.mono ?_
  rintro x w' ⟨hw, r, rfl, hr⟩
  subst hw
  cases r with
  | true =>
    clear hr
    go_wp2_with fail
    refine (known_any _).mono ?_
    rintro x w1 ⟨rfl, hb⟩
    have HB := hid hb
    clear hb
    go_wp2
    go_ret
    exact ⟨rfl, HB.out⟩
  | false =>
    obtain ⟨hn, hbs, hsum⟩ := hr rfl
    clear hr HM
    go_wp2_with (at_builtin; refine wpList_append_sn _ rfl (.tmp 17) (.tmp 18) rfl w'.heap.size (.slice (some ⟨w'.heap.size, 0, none⟩) 0 0) 0 [] rfl ((show Own _ w'.heap.size [] from heap_alloc_new w' _).owns (Nat.le_refl _) (by simp)) _ bs rfl (HS.out.alloc _) (by omega) (by simp) ?_)
    intro ao1 c1 w1 ho1 hg1
    have hb1 : Below w'.heap.size w' w1 := ((Below.refl _ _).alloc (Nat.le_refl _) _).grown hg1 (by simp) (by intro k hk; simp [Value.ownBlock] at hk; omega)
    have hz1 := hb1.size
    have Ho1 := hid ho1
    clear hg1 ho1
    go_wp2_with (at_builtin; refine wpList_append_sn _ rfl (.tmp 20) (.tmp 21) rfl w'.heap.size (.slice ao1 bs.length c1) bs.length bs rfl (Ho1.out.alloc _) _ [171, 172] rfl (snNew w1 171 172) (by simp; omega) (by simp; omega) ?_)
    intro ao2 c2 w2 ho2 hg2
    have hlo := Ho1.out.lt
    have hb2 : Below w'.heap.size w' w2 := (hb1.alloc hz1 _).grown hg2 (by simp; omega) (by intro k hk; have := hlo k hk; omega)
    have hz2 := hb2.size
    have ho2' : w2.ownsRow w'.heap.size 5 1 (.slice ao2 (bs.length + 2) c2) (bs.length + 2) (B8 (bs ++ [171, 172])) := by simpa [B8] using ho2
    obtain ⟨g, rfl, hg, hrow, hc2, -⟩ := brow_of_owns ho2' (by omega)
    obtain ⟨rv, hsl, hrv, -⟩ := sl_to (hrow.sl c2 (by simpa using hc2)) bs.length (by simp)
    rw [List.take_left' rfl] at hrv
    rw [List.length_append] at hsl
    have hsl' : ∀ wx : World, (Instr.slice 26 (.slice (some ⟨g, 0, none⟩) (bs.length + 2) c2) none (some (.int .i64 bs.length)) none).run Try.prog wx = .ok rv wx := hsl
    clear hsl
    obtain ⟨V, hV⟩ : ∃ V, V = Value.slice (some ⟨g, 0, none⟩) (bs.length + 2) c2 := ⟨_, rfl⟩
    rw [← hV] at hsl'
    rw [← hV]
    have HV := hid hV
    clear hV
    have HRv := hid hrv
    have HRow := hid hrow
    have HB2 := hid hb2
    have hgl := hrow.lt
    have e171 := hrow.cell (j := bs.length) (x := 171) (by simp)
    have e172 := hrow.cell (j := bs.length + 1) (x := 172) (by simp)
    clear hlo hg2 ho2 ho2' Ho1 hb1 hb2 hrv hrow
    go_wp2_with fail
    refine (read_any _ bs _ HRv.out HO.out (by omega)).mono ?_
    rintro x w3 ⟨p, rfl, hp, hrd, hb3⟩
    have hz3 := hb3.size
    have HB3 := hid (HB2.out.trans (hb3.mono hz2))
    have HRow3 := hid (HRow.out.below hb3 hgl)
    have HRv3 := hid (HRv.out.below hb3)
    have HS3 := hid (HS.out.below HB3.out)
    have HRd3 := hid hrd
    clear e171 e172 hb3 hrd HB2 HRow HRv
    have e171 := HRow3.out.cell (j := bs.length) (x := 171) (by simp)
    have e172 := HRow3.out.cell (j := bs.length + 1) (x := 172) (by simp)
    go_wp2_with fail
    obtain ⟨n2, hn2⟩ : ∃ n2, n2 = bs.length + 2 := ⟨_, rfl⟩
    rw [HV.out, ← hn2]
    refine (bytes_same _ _ bs _ HRv3.out HS3.out.1 (by omega)).mono ?_
    rintro x w4 ⟨hd, rfl⟩
    dsimp only
    have hb4 := dnBelow hd w3.heap.size
    have hz4 := hb4.size
    have HB4 := hid (HB3.out.trans (hb4.mono HB3.out.size))
    have HRow4 := hid (HRow3.out.below hb4 HRow3.out.lt)
    have HRd4 := hid (rd_below HRd3.out hb4)
    have q171 := (hd.cell _).trans e171
    have q172 := (hd.cell _).trans e172
    clear e171 e172 hb4 hd HB3 HRow3 HRv3 HRd3 hsl' HV HS3
    have hi0 : (0 : Int) ≤ (bs.length : Int) := by omega
    have hi1 : (bs.length : Int) < (n2 : Int) := by omega
    have hi3 : (0 : Int) ≤ (bs.length : Int) + 1 := by omega
    have hi4 : ((bs.length : Int) + 1).toNat = bs.length + 1 := by omega
    have hi2 : (bs.length : Int) + 1 < (n2 : Int) := by omega
    go_wp2_with fail
    clear q171 q172
    go_loopw [7] (fun i wr => ∃ (k : Nat) (ys : List Int), k ≤ bs.length + 2 ∧ i = .int .i64 k ∧ ys.length = bs.length + 2 ∧ Brow wr g ys ∧ Rd wr p (some w2.heap.size) bs 0 0 ∧ Below w'.heap.size w' wr)
      (fun i _ => bs.length + 2 - (intOf i).toNat)
    case atStart => exact ⟨0, bs ++ [171, 172], Nat.zero_le _, rfl, by simp, HRow4.out, HRd4.out, HB4.out⟩
    case round =>
      obtain ⟨k, ys, hk, rfl, hys, hrow, hrd, hbel⟩ := hrel
      by_cases hlt : k < bs.length + 2
      · have hcx := hrow.cell (j := k) (x := ys[k]'(by omega)) (by simp)
        have hfx := hrow.free k
        have HN := hid (⟨hrow, hrd, hbel⟩ : _ ∧ _ ∧ _)
        clear hrow hrd hbel
        generalize ys[k]'(by omega) = y at hcx
        go_wp2
        go_roundw
        have hK : Kept (fun j => j = g) wr (wr.setCell ⟨g, k, none⟩ (.int .u8 (bits .xor .u8 y 255))) := (Kept.refl (fun j => j = g) wr).setCell (p := ⟨g, k, none⟩) (fun _ => rfl) _
        case rel => exact ⟨k + 1, _, by omega, by go_num, by rw [List.length_set]; exact hys, HN.out.1.set k _, HN.out.2.1.kept hK (by omega) (by intro j hj; injection hj with hj; omega), HN.out.2.2.setCell (p := ⟨g, k, none⟩) hg _⟩
        case measure => simp [intOf]; omega
      · obtain rfl : k = bs.length + 2 := by omega
        have HRd := hid hrd
        have HB := hid hbel
        have hpl := lt_of_block hrd.choose_spec.1
        clear hrow hrd hbel
        go_wp2_with fail
        refine (rread_any aob bs.length capb _).mono ?_
        rintro x w5 ⟨rfl, hb5⟩
        have hz5 := hb5.size
        have HRd5 := hid (rd_below HRd.out hb5)
        have HB5 := hid (HB.out.trans (hb5.mono HB.out.size))
        clear hb5 HRd HB HRd4 HB4 HRow4
        go_wp2_with fail
        obtain ⟨W, hW⟩ : ∃ W, W = w5.alloc (.cells #[.slice aob bs.length capb, .int .i64 0, .int .i64 0, .int .i64 0] 44) := ⟨_, rfl⟩
        rw [← hW]
        have hq0 : W.heap[w5.heap.size]? = some (.cells #[.slice aob bs.length capb, .int .i64 0, .int .i64 0, .int .i64 0] 44 (0, 0)) := by rw [hW]; exact heap_alloc_new w5 _
        have hR0 : Rd W p (some w2.heap.size) bs 0 0 := by rw [hW]; exact rd_below HRd5.out ((Below.refl _ _).alloc (Nat.le_refl _) _)
        have hB0 : Below w'.heap.size w' W := by rw [hW]; exact HB5.out.alloc HB5.out.size _
        have hpq : p < w5.heap.size := by omega
        have hgq : w2.heap.size < w5.heap.size := by omega
        have hbq : w'.heap.size ≤ w5.heap.size := by omega
        clear hW HRd5 HB5
        generalize w5.heap.size = q at *
        generalize hgd : w2.heap.size = gd at *
        have H0 := hid (⟨hq0, hR0, hB0⟩ : _ ∧ _ ∧ _)
        clear hq0 hR0 hB0 hgd
        refine (tells_any p (some gd) bs 0 0 0 aob capb _ H0.out.2.1 (fun h => absurd rfl h)).mono ?_
        rintro x w6 ⟨rfl, hb6⟩
        have H6 := hid (⟨(hb6.block _ (lt_of_block H0.out.1)).trans H0.out.1, rd_below H0.out.2.1 hb6, H0.out.2.2.trans (hb6.mono H0.out.2.2.size)⟩ : _ ∧ _ ∧ _)
        clear hb6 H0
        go_wp2
        go_loopw [9] (fun i wr => ∃ (k a : Nat) (e st : Int), k ≤ its.length ∧ i = .int .i64 k ∧ wr.heap[q]? = some (.cells #[.slice aob bs.length capb, .int .i64 a, .int .i64 e, .int .i64 st] 44 (0, 0)) ∧ Rd wr p (some gd) bs a e ∧ Hid (e ≠ 0 → st = a) ∧ Below w'.heap.size w' wr)
          (fun i _ => its.length - (intOf i).toNat)
        case atStart => exact ⟨0, 0, 0, 0, Nat.zero_le _, rfl, H6.out.1, H6.out.2.1, hid (fun h => absurd rfl h), H6.out.2.2⟩
        case round =>
          clear H6
          obtain ⟨k, a, e, st, hk, rfl, hxb, hrd, hst, hbel⟩ := hrel
          by_cases hlt : k < its.length
          · obtain ⟨b, off, rfl, hj⟩ := Hcl.out (by intro e; subst e; simp at hlt)
            have hcx := hj k its[k] (by simp [hlt])
            have hxok := Hok.out its[k] (List.getElem_mem hlt)
            obtain ⟨x, hxe⟩ : ∃ x, x = its[k] := ⟨_, rfl⟩
            rw [← hxe] at hcx hxok
            have HX := hid hxok
            obtain ⟨⟨⟨u, i, s⟩, a2, e2⟩, hz⟩ : ∃ z, itZ x bs a e = z := ⟨_, rfl⟩
            have HZ := hid hz
            have hab : a ≤ bs.length := by obtain ⟨_, _, _, _, _, _, h, _⟩ := hrd; exact h
            clear hz
            have hIt : ∀ wx : World, Below w'.heap.size w' wx → It.at wx b (off + k * 5) x := fun wx hb => by
              obtain ⟨c0, c1, c2, c3, c4⟩ := hcx
              exact ⟨(hb.cell (World.block_lt_of_cell? _ _ c0)).trans c0, (hb.cell (World.block_lt_of_cell? _ _ c1)).trans c1, (hb.cell (World.block_lt_of_cell? _ _ c2)).trans c2, (hb.cell (World.block_lt_of_cell? _ _ c3)).trans c3, (hb.cell (World.block_lt_of_cell? _ _ c4)).trans c4⟩
            have HIt := hid hIt
            have hbl' : b < w'.heap.size := World.block_lt_of_cell? _ _ hcx.1
            obtain ⟨c0, c1, c2, c3, c4⟩ := hIt wr hbel
            have HL := hid (⟨hxb, hrd, hbel⟩ : _ ∧ _ ∧ _)
            have hqr : q < wr.heap.size := lt_of_block hxb
            clear hIt hcx hj hxok hxe hxb hrd hbel
            go_wp2_with fail
            refine (tkT p (some gd) bs a e _ x HL.out.2.1 (by omega) HX.out u i s a2 e2 HZ.out).mono ?_
            rintro y wt ⟨rfl, hr3, hk3⟩
            have hzt := hk3.size
            have hqt := (hk3.block _ hqr (by omega)).trans HL.out.1
            have hbt := HL.out.2.2.trans (hk3.below HL.out.2.2.size (by intro j hj; omega))
            have HT := hid (⟨hqt, hr3, hbt⟩ : _ ∧ _ ∧ _)
            clear hk3 hqt hr3 hbt HL c0 c1 c2 c3 c4
            generalize hsb : mkStr s = sb
            have HSB := hid hsb
            clear hsb
            go_wp2_with fail
            obtain ⟨w3, hw3⟩ : ∃ w3, w3 = wt.alloc (.cells #[.int .u64 u, .int .i64 i, .string sb] 48) := ⟨_, rfl⟩
            rw [← hw3]
            have hG : w3.heap[wt.heap.size]? = some (.cells #[.int .u64 u, .int .i64 i, .string sb] 48 (0, 0)) := by rw [hw3]; exact heap_alloc_new wt _
            have hbw : Below wt.heap.size wt w3 := by rw [hw3]; exact (Below.refl _ _).alloc (Nat.le_refl _) _
            have HL3 := hid (⟨(hbw.block _ (by omega)).trans HT.out.1, rd_below HT.out.2.1 hbw, HT.out.2.2.trans (hbw.mono HT.out.2.2.size)⟩ : _ ∧ _ ∧ _)
            have HG := hid hG
            have hGl : wt.heap.size < w3.heap.size := lt_of_block hG
            have hqG : q < wt.heap.size := by omega
            clear hw3 hG hbw HT
            generalize wt.heap.size = G at *
            obtain ⟨c0, c1, c2, c3, c4⟩ := HIt.out w3 HL3.out.2.2
            obtain ⟨x0, x1, x2, x3⟩ := cell_of_four HL3.out.1
            have hq3 : q < w3.heap.size := by omega
            have hb3' : b < w3.heap.size := World.block_lt_of_cell? _ _ c0
            have ne1 : q ≠ w3.heap.size := by omega
            have ne2 : b ≠ w3.heap.size := by omega
            have ne3 : q ≠ w3.heap.size + 1 := by omega
            have ne4 : b ≠ w3.heap.size + 1 := by omega
            have hKeep : ∀ wx : World, Below w3.heap.size w3 wx → (wx.cell? ⟨q, 0, none⟩ = some (.slice aob bs.length capb) ∧ wx.cell? ⟨q, 1, none⟩ = some (.int .i64 a) ∧ wx.cell? ⟨q, 2, none⟩ = some (.int .i64 e) ∧ wx.cell? ⟨q, 3, none⟩ = some (.int .i64 st)) ∧ (wx.cell? ⟨b, off + k * 5, none⟩ = some (.int .i64 x.kind) ∧ wx.cell? ⟨b, off + k * 5 + 1, none⟩ = some (.int .i64 x.n) ∧ wx.cell? ⟨b, off + k * 5 + 2, none⟩ = some (.int .u64 x.u) ∧ wx.cell? ⟨b, off + k * 5 + 3, none⟩ = some (.int .i64 x.i) ∧ wx.cell? ⟨b, off + k * 5 + 4, none⟩ = some (.string x.s)) ∧ Below w3.heap.size w3 wx := fun wx hb =>
              ⟨⟨(hb.cell hq3).trans x0, (hb.cell hq3).trans x1, (hb.cell hq3).trans x2, (hb.cell hq3).trans x3⟩, ⟨(hb.cell hb3').trans c0, (hb.cell hb3').trans c1, (hb.cell hb3').trans c2, (hb.cell hb3').trans c3, (hb.cell hb3').trans c4⟩, hb⟩
            have HK := hid hKeep
            clear hKeep
            have hself : Below w3.heap.size w3 w3 := Below.refl _ _
            have HSl := hid (fun (wx : World) (hb : Below w3.heap.size w3 wx) => (HS.out.below (HL3.out.2.2.trans (hb.mono HL3.out.2.2.size))).1)
            go_region_held3 (fun wx => (wx.cell? ⟨q, 0, none⟩ = some (.slice aob bs.length capb) ∧ wx.cell? ⟨q, 1, none⟩ = some (.int .i64 a) ∧ wx.cell? ⟨q, 2, none⟩ = some (.int .i64 e) ∧ wx.cell? ⟨q, 3, none⟩ = some (.int .i64 st)) ∧ (wx.cell? ⟨b, off + k * 5, none⟩ = some (.int .i64 x.kind) ∧ wx.cell? ⟨b, off + k * 5 + 1, none⟩ = some (.int .i64 x.n) ∧ wx.cell? ⟨b, off + k * 5 + 2, none⟩ = some (.int .u64 x.u) ∧ wx.cell? ⟨b, off + k * 5 + 3, none⟩ = some (.int .i64 x.i) ∧ wx.cell? ⟨b, off + k * 5 + 4, none⟩ = some (.string x.s)) ∧ Below w3.heap.size w3 wx)
              ((refine HK.out _ ?_; repeat (first | with_reducible assumption | with_reducible exact Below.refl _ _ | with_reducible refine Below.drew ?_ | with_reducible refine Below.alloc ?_ (by (try simp) <;> omega) _ | with_reducible refine Below.setCell ?_ (by (try simp) <;> omega) _)))
              (first | (go_at_call 20; refine (takenT (.slice aob bs.length capb) bs a e st x _ (HSl.out _ (by (repeat (first | with_reducible assumption | with_reducible exact Below.refl _ _ | with_reducible refine Below.drew ?_ | with_reducible refine Below.alloc ?_ (by (try simp) <;> omega) _ | with_reducible refine Below.setCell ?_ (by (try simp) <;> omega) _)))) HO.out (by omega) hab hst.out HX.out u i s a2 e2 HZ.out).mono ?_; rintro y w4 ⟨st2, rfl, hst2, hb4⟩; rw [HSB.out]; have hz4 := hb4.size; (first | (have uu := behind34 w3 hb4; obtain ⟨⟨⟨a0, a1, a2'⟩, f0, f1, f2⟩, ⟨d0, d1, d2, d3⟩, g0, g1, g2, g3⟩ := uu) | (have uu := behind43 w3 hb4; obtain ⟨⟨⟨a0, a1, a2', a3⟩, f0, f1, f2, f3⟩, ⟨d0, d1, d2⟩, g0, g1, g2⟩ := uu) | (have uu := behind3 w3 hb4; obtain ⟨⟨a0, a1, a2'⟩, f0, f1, f2⟩ := uu) | (have uu := behind4 w3 hb4; obtain ⟨⟨a0, a1, a2', a3⟩, f0, f1, f2, f3⟩ := uu) | skip); have hz5 : w3.heap.size ≤ w4.heap.size := (by simp at hz4; omega); have ne5 : q ≠ w4.heap.size := (by omega); have ne6 : b ≠ w4.heap.size := (by omega); (first | (have n1 := World.block_lt_of_cell? _ _ a0; have n2 := World.new_ne _ _ a0; dsimp only at n1 n2; (first | (have n3 := World.block_lt_of_cell? _ _ d0; have n4 := World.new_ne _ _ d0; dsimp only at n3 n4) | skip)) | skip); have hself4 : Below w3.heap.size w3 w4 := Below.trans (by repeat (first | with_reducible exact Below.refl _ _ | with_reducible refine Below.drew ?_ | with_reducible refine Below.alloc ?_ (by (try simp) <;> omega) _)) (hb4.mono (by (try simp) <;> omega)); have HS4 := hid hst2; have q4 := (hself4.block _ hq3).trans HL3.out.1; have z0 := free_of_block (o := 0) q4; have z1 := free_of_block (o := 1) q4; have z2 := free_of_block (o := 2) q4; have z3 := free_of_block (o := 3) q4; clear q4; clear hb4 hst2))
            all_goals (first | (refine cutG (fun W => NB2 W w3 (w4.heap.size + 1) (w4.heap.size) (.slice aob bs.length capb) a2 e2 st2 u i sb) (And.intro ?hbel ?hcel) ?_; (case hcel => go_simp; done); (case hbel => (repeat (first | with_reducible assumption | with_reducible exact Below.refl _ _ | with_reducible refine Below.drew ?_ | with_reducible refine Below.alloc ?_ (by (try simp) <;> omega) _ | with_reducible refine Below.setCell ?_ (by (try simp) <;> omega) _)); done)) | (refine cutG (fun W => NB2 W w3 (w4.heap.size) (w4.heap.size + 1) (.slice aob bs.length capb) a2 e2 st2 u i sb) (And.intro ?hbel ?hcel) ?_; (case hcel => go_simp; done); (case hbel => (repeat (first | with_reducible assumption | with_reducible exact Below.refl _ _ | with_reducible refine Below.drew ?_ | with_reducible refine Below.alloc ?_ (by (try simp) <;> omega) _ | with_reducible refine Below.setCell ?_ (by (try simp) <;> omega) _)); done)) | (refine cutG (fun W => NB2 W w3 (w4.heap.size) (w3.heap.size) (.slice aob bs.length capb) a2 e2 st2 u i sb) (And.intro ?hbel ?hcel) ?_; (case hcel => go_simp; done); (case hbel => (repeat (first | with_reducible assumption | with_reducible exact Below.refl _ _ | with_reducible refine Below.drew ?_ | with_reducible refine Below.alloc ?_ (by (try simp) <;> omega) _ | with_reducible refine Below.setCell ?_ (by (try simp) <;> omega) _)); done)) | (refine cutG (fun W => NB2 W w3 (w3.heap.size + 1) (w3.heap.size) (.slice aob bs.length capb) a2 e2 st2 u i sb) (And.intro ?hbel ?hcel) ?_; (case hcel => go_simp; done); (case hbel => (repeat (first | with_reducible assumption | with_reducible exact Below.refl _ _ | with_reducible refine Below.drew ?_ | with_reducible refine Below.alloc ?_ (by (try simp) <;> omega) _ | with_reducible refine Below.setCell ?_ (by (try simp) <;> omega) _)); done)) | (refine cutG (fun W => NB2 W w3 (w3.heap.size) (w3.heap.size + 1) (.slice aob bs.length capb) a2 e2 st2 u i sb) (And.intro ?hbel ?hcel) ?_; (case hcel => go_simp; done); (case hbel => (repeat (first | with_reducible assumption | with_reducible exact Below.refl _ _ | with_reducible refine Below.drew ?_ | with_reducible refine Below.alloc ?_ (by (try simp) <;> omega) _ | with_reducible refine Below.setCell ?_ (by (try simp) <;> omega) _)); done)) | (refine cutG (fun W => NB2 W w3 (w3.heap.size) (w4.heap.size) (.slice aob bs.length capb) a2 e2 st2 u i sb) (And.intro ?hbel ?hcel) ?_; (case hcel => go_simp; done); (case hbel => (repeat (first | with_reducible assumption | with_reducible exact Below.refl _ _ | with_reducible refine Below.drew ?_ | with_reducible refine Below.alloc ?_ (by (try simp) <;> omega) _ | with_reducible refine Below.setCell ?_ (by (try simp) <;> omega) _)); done)))
            all_goals
              rintro W ⟨hBW, ⟨hP0, hP1, hP2, hP3⟩, hQ0, hQ1, hQ2⟩
              have hqW := (hBW.block _ hq3).trans HL3.out.1
              have hGW := (hBW.block _ hGl).trans HG.out
              have hRW := rd_below HL3.out.2.1 hBW
              have hbW := HL3.out.2.2.trans (hBW.mono HL3.out.2.2.size)
              clear hBW
              obtain ⟨W2, hW2⟩ : ∃ W2, W2 = (((W.setCell ⟨q, 0, none⟩ (.slice aob bs.length capb)).setCell ⟨q, 1, none⟩ (.int .i64 a2)).setCell ⟨q, 2, none⟩ (.int .i64 e2)).setCell ⟨q, 3, none⟩ (.int .i64 st2) := ⟨_, rfl⟩
              have HN := hid (storeT hqW hRW hbW hbq hpq hgq hW2)
              have HS5 := hid HS4.out
              have HW2 := hid hW2
              obtain ⟨y0, y1, y2, y3⟩ := cell_of_four hqW
              have v0 := free_of_block (o := 0) hqW
              have v1 := free_of_block (o := 1) hqW
              have v2 := free_of_block (o := 2) hqW
              have v3 := free_of_block (o := 3) hqW
              obtain ⟨m0, m1, m2⟩ := cell_of_three hGW
              have neG : G ≠ q := by omega
              have neG' : q ≠ G := by omega
              have ne5' : w4.heap.size ≠ q := by omega
              have ne1' : w3.heap.size ≠ q := by omega
              have ne3' : w3.heap.size + 1 ≠ q := by omega
              have ne7' : w4.heap.size + 1 ≠ q := by omega
              have ne7 : q ≠ w4.heap.size + 1 := by omega
              clear c0 c1 c2 c3 c4 x0 x1 x2 x3
              clear hqW hRW hbW hW2 HK hself hself4 HS4 hGW HG
              generalize w4.heap.size = P4 at *
              generalize w3.heap.size = P3 at *
              go_wp2_with fail
              rw [← HW2.out]
              refine (tells_any p (some gd) bs a2 e2 st2 aob capb _ HN.out.2.1 HS5.out).mono ?_
              rintro y w7 ⟨rfl, hb7⟩
              have HN7 := hid (⟨(hb7.block _ (lt_of_block HN.out.1)).trans HN.out.1, rd_below HN.out.2.1 hb7, HN.out.2.2.trans (hb7.mono HN.out.2.2.size)⟩ : _ ∧ _ ∧ _)
              clear y0 y1 y2 y3 v0 v1 v2 v3 m0 m1 m2 hP0 hP1 hP2 hP3 hQ0 hQ1 hQ2 HN hb7 HW2
              go_wp2
              go_roundw
              case rel => first | exact ⟨k + 1, a2, e2, st2, by omega, by go_num, HN7.out.1, HN7.out.2.1, HS5, HN7.out.2.2⟩ | ((repeat apply Exists.intro); exact ⟨⟨k + 1, a2, e2, st2, by omega, by go_num, HN7.out.1, HN7.out.2.1, HS5, HN7.out.2.2⟩, rfl⟩)
              case measure => simp [intOf]; omega
          · obtain rfl : k = its.length := by omega
            have HB := hid hbel
            clear hbel hxb hrd
            go_wp2_with fail
            refine (known_any _).mono ?_
            rintro x w9 ⟨rfl, hb9⟩
            have HB9 := hid (HB.out.trans (hb9.mono HB.out.size))
            clear hb9 HB
            go_wp2
            go_ret
            exact ⟨rfl, HB9.out⟩

end Go.Proofs.Ytamajeagmkjjbaa
