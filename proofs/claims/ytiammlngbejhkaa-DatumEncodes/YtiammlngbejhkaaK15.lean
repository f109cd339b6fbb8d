import Derived.Test.YtiammlngbejhkaaK14
import Derived.Test.YtiammlngbejhkaaK09
import Derived.Test.YtiammlngbejhkaaK13
namespace Go.Proofs.Ytiammlngbejhkaa
open Go.RowKit

theorem fresh_trans {v v1 v0 : Value} {B D : Nat} (h1 : v1 = v0 ∨ ∀ k, v1.ownBlock = some k → B ≤ k ∧ k < D) (h : v = v1 ∨ ∀ k, v.ownBlock = some k → B ≤ k ∧ k < D) : v = v0 ∨ ∀ k, v.ownBlock = some k → B ≤ k ∧ k < D := by
  rcases h with rfl | h
  · exact h1
  · exact .inr h

theorem strBs_take (s : ByteArray) (k : Nat) (h : k < s.size) : (strBs s).take (k + 1) = (strBs s).take k ++ [(s[k].toNat : Int)] := by
  rw [List.take_succ_eq_append_getElem (by rw [strBs_len]; exact h)]
  congr 1
  simp [strBs]
  rfl

theorem laidZ_len (s : List Int × Int) (xs : List Int) : (laidZ s xs).1.length ≤ s.1.length + xs.length := by
  unfold laidZ; split <;> simp
theorem stopZ_len (s : List Int × Int) (e : Int) : (stopZ s e).1.length ≤ s.1.length := by
  unfold stopZ; split <;> simp
theorem rnumZ_len (s : List Int × Int) (v : Int) : (rnumZ s v).1.length ≤ s.1.length + 11 := by
  unfold rnumZ; split
  · have := stopZ_len s 15; omega
  · have := laidZ_len s (rowF 10 v); have := rowF_le 10 v; omega

set_option maxRecDepth 100000 in
set_option maxHeartbeats 800000 in
theorem rtextW_any (v : Value) (t : List Int × Int) (s : ByteArray) (w : World) (h : Sn w v t.1) (hl : t.1.length ≤ 1000000000) (hs : s.size ≤ 1000000000) :
    Calls Try.prog 57 #[.agg #[v, .int .i64 t.2], .string s] w fun x w' => RWPost w v (rtextZ t (strBs s)).1 (rtextZ t (strBs s)).2 x w' := by
  obtain ⟨ao, c, rfl⟩ := h.form
  obtain ⟨bs, e⟩ := t
  have H := hid h
  clear h
  dsimp only at hl
  unfold rtextZ
  rw [strBs_len]
  obtain ⟨R, hR⟩ : ∃ R, R = laidZ (rnumZ (bs, e) (s.size : Int)) (strBs s) := ⟨_, rfl⟩
  obtain ⟨R1, hR1⟩ : ∃ R1, R1 = rnumZ (bs, e) (s.size : Int) := ⟨_, rfl⟩
  have hR1l : R1.1.length ≤ bs.length + 11 := by rw [hR1]; exact rnumZ_len _ _
  rw [← hR]
  rw [← hR1] at hR
  have HR := hid hR
  have HR1 := hid hR1
  have hsl := strBs_len s
  have HSL := hid hsl
  clear hR hR1 hsl
  obtain ⟨i0, hi, hz0, hz1, hz2⟩ := info_parts Try.info5
  go_enter Try.func57, Try.ntmps57
  go_wp2
  obtain ⟨Wc, hWc⟩ : ∃ Wc, Wc = (w.alloc (.cells #[.slice ao bs.length c, .int .i64 e] 85)).alloc (.cells #[.slice none 0 0, .int .i64 0] 85) := ⟨_, rfl⟩
  have hb0 : Below w.heap.size w Wc := by rw [hWc]; exact ((Below.refl _ _).alloc (Nat.le_refl _) _).alloc (by simp) _
  have hzc : Wc.heap.size = w.heap.size + 2 := by rw [hWc]; simp
  obtain ⟨hq0, hp0⟩ : Wc.heap[w.heap.size + 1]? = some (.cells #[.slice none 0 0, .int .i64 0] 85 (0, 0)) ∧ Wc.heap[w.heap.size]? = some (.cells #[.slice ao bs.length c, .int .i64 e] 85 (0, 0)) := by rw [hWc]; exact new2 w _ _
  rw [← hWc]
  have Hq := hid hq0
  have Hp := hid hp0
  have hz : w.heap.size + 2 ≤ Wc.heap.size := by omega
  have hz' : Wc.heap.size ≤ w.heap.size + 2 := by omega
  clear hWc hq0 hp0 hzc
  go_loopw [5, 6] (fun b i wr => ∃ (k : Nat), k ≤ s.size ∧ i = .int .i64 k ∧ wr.ownsRow (w.heap.size + 2) 5 1 b ((strBs s).take k).length (B8 ((strBs s).take k)) ∧ Below Wc.heap.size Wc wr)
    (fun _ i _ => s.size - (intOf i).toNat)
  case atStart => exact ⟨0, Nat.zero_le _, rfl, World.ownsRow_nil _ _ _ _, Below.refl _ _⟩
  case round =>
    obtain ⟨k, hk, rfl, hown, hbel⟩ := hrel
    have hzr := hbel.size
    by_cases hlt : k < s.size
    · have hlo := hown.lt
      have hsn := strBs_take s k hlt
      obtain ⟨bb, hbb⟩ : ∃ bb, bb = (strBs s).take k := ⟨_, rfl⟩
      have hlen2 : bb.length ≤ 1000000000 := by rw [hbb, List.length_take]; omega
      rw [← hbb] at hown hsn
      have HS := hid hsn
      clear hbb hsn
      go_wp2_with (at_builtin; refine wpList_append_lies _ rfl _ _ _ rfl (w.heap.size + 2) 5 i0 (.int .u8 0) 1 1 Try.underlying40 hi hz0 hz1 hz2 rfl (by omega) _ bb.length (B8 bb) rfl (hown.alloc _) ⟨wr.heap.size, 0, none⟩ 1 1 [.int .u8 (s[k].toNat : Int)] rfl rfl (World.news_of_block (cs := #[.int .u8 (s[k].toNat : Int)]) (t := 5) (fr := (0, 0)) (heap_alloc_new wr _)) (by simp [Value.oneCell']) (by omega) (by unfold maxLen; omega) (by omega) (by simp; omega) (wr.heap.size + 1) (by simp) ?_)
      intro g2 cap w1 hown1 hgrow hat hlt2
      have hb1 : Below Wc.heap.size Wc w1 := (hbel.alloc (by omega) _).grown hgrow (by simp; omega) (fun k hk => by have := (hlo k hk).1; omega)
      have HO := hid hown1
      clear hown1 hgrow hat hown hlo
      go_wp2
      go_roundw
      case rel =>
        refine ⟨k + 1, by omega, by go_num, ?_, hb1⟩
        rw [HS.out]
        have := HO.out
        simpa [B8] using this
      case measure => simp [intOf]; omega
    · obtain rfl : k = s.size := by omega
      rw [List.take_of_length_le (by rw [HSL.out]; omega)] at hown
      have hp1 := (hbel.block _ (by omega)).trans Hp.out
      have hq1 := (hbel.block _ (by omega)).trans Hq.out
      obtain ⟨c0, c1⟩ := cell_of_pair hp1
      have hbw : Below w.heap.size w wr := hb0.trans (hbel.mono (by omega))
      have HS1 := hid (sn_of_owns hown)
      have HSv := hid (H.out.below hbw)
      have HQ := hid hq1
      clear hp1 hq1 hown Hp Hq hbel
      go_wp2_with fail
      refine (rnumW_any _ (bs, e) (s.size : Int) _ HSv.out (by dsimp only; omega) (by omega)).mono ?_
      rw [← HR1.out]
      rintro x w2 ⟨v1, rfl, hs1, hb1, hf1⟩
      obtain ⟨ao1, c1', rfl⟩ := hs1.form
      have HS2 := hid (HS1.out.below hb1)
      have HT := hid hs1
      have hf1' := fresh_mono hf1 (show w.heap.size ≤ wr.heap.size by omega) (Nat.le_refl _)
      have HF1 := hid hf1'
      have hz2 := hb1.size
      have HQ2 := hid ((hb1.block (w.heap.size + 1) (by omega)).trans HQ.out)
      have hbw2 : Below w.heap.size w w2 := hbw.trans (hb1.mono (by omega))
      clear hs1 hb1 hf1 hf1' HS1 HQ hbw
      go_wp2_with fail
      refine (rlaid_any _ _ R1 (strBs s) _ HT.out HS2.out (by rw [HSL.out]; omega)).mono ?_
      rw [← HR.out]
      rintro x w3 ⟨v2, rfl, hs2, hb2, hf2⟩
      obtain ⟨ao2, c2', rfl⟩ := hs2.form
      have hq2 := (hb2.block (w.heap.size + 1) (by omega)).trans HQ2.out
      have HF := hid (rw_finish (w := w) (e := R.2) hq2 hs2 (hbw2.trans (hb2.mono (by omega))) (by omega) (fresh_trans (fresh_mono HF1.out (Nat.le_refl _) hb2.size) (fresh_mono hf2 (by omega) (Nat.le_refl _))))
      obtain ⟨d2, d3⟩ := cell_of_pair hq2
      have z1 := free_of_block (o := 0) hq2
      have z2 := free_of_block (o := 1) hq2
      clear hq2 hs2 hb2 hf2
      go_wp2
      refine bodyPost_ret (v := .agg #[.slice ao2 R.1.length c2', .int .i64 R.2]) (by simp [results, Try.results57, go_sem, d2, d3]) rfl ?_
      exact HF.out

end Go.Proofs.Ytiammlngbejhkaa

namespace Go.Proofs.Ytiammlngbejhkaa
open Go.RowKit Go.Lib

theorem vfacts2 {w : World} {r : Nat} {a b : Value} {t : TypeId} (h : w.heap[r]? = some (.cells #[a, b] t (0, 0))) :
    w.cell? ⟨r, 0, none⟩ = some a ∧ w.cell? ⟨r, 1, none⟩ = some b ∧ ∀ o, w.frozen? ⟨r, o, none⟩ = false := by
  refine ⟨?_, ?_, fun o => by simp [World.frozen?, h]⟩ <;> (rw [cell_of_row w _ _ _ _ _ h]; rfl)

/-- What the document's Encode answers of a value. -/
def REncOk (bs : List Int) (w : World) (e : Ending) (w' : World) : Prop := ∃ v, e = .returned (.tuple #[v, .int .i64 0]) ∧ Sn w' v bs ∧ Below w.heap.size w w' ∧ ∀ k, v.ownBlock = some k → w.heap.size ≤ k ∧ k < w'.heap.size

set_option maxRecDepth 100000 in
set_option maxHeartbeats 800000 in
theorem rencode_no (k i : Int) (s : ByteArray) (r : Int) (hr : chk k i s = r) (h0 : r ≠ 0) (w : World) : Calls Try.prog 29 #[vl k i s] w (EncNo r w) := by
  have hB0 := hid (below1 w (vo k i s))
  have hc := rcheck_any k i s
  rw [hr] at hc
  have HC := hid hc
  have hb : (r == 0) = false := by simpa using h0
  clear hc hr
  unfold EncNo
  go_enter Try.func29, Try.ntmps29
  go_wp2_with (
    go_at_call 11
    refine (HC.out _).mono ?_
    rintro e w1 ⟨rfl, hb1⟩
    have H1 := hid (below_on hB0.out hb1)
    clear hb1)
  go_ret2
  exact ⟨rfl, H1.out⟩

/-- Behind a call on the document's Writer: where its block is. -/
theorem renc_step {w w2 w3 : World} {a b c v2 e2 : Value} (h1 : w2.heap[w.heap.size]? = some (.cells #[a, b, c] 23 (0, 0))) (h2 : Below w.heap.size w w2) (hb : Below (w2.alloc (.cells #[v2, e2] 85)).heap.size (w2.alloc (.cells #[v2, e2] 85)) w3) :
    w3.heap[w.heap.size]? = some (.cells #[a, b, c] 23 (0, 0)) ∧ w3.heap[w2.heap.size]? = some (.cells #[v2, e2] 85 (0, 0)) ∧ Below w.heap.size w w3 ∧ w.heap.size < w2.heap.size := by
  have hl := lt_of h1
  exact ⟨blk_of hb ((Below.heap_alloc _ _ _ hl).trans h1) (by simp; omega), blk_of hb (heap_alloc_new w2 _) (by simp), (h2.alloc h2.size _).trans (hb.mono (h2.alloc h2.size _).size), hl⟩

theorem new_blk {w w2 : World} {v : Value} (h : v = .slice none 0 0 ∨ ∀ k, v.ownBlock = some k → w.heap.size ≤ k ∧ k < w2.heap.size) : ∀ k, v.ownBlock = some k → w.heap.size ≤ k ∧ k < w2.heap.size := by
  rcases h with rfl | h
  · intro k hk; simp [Value.ownBlock] at hk
  · exact h

theorem renc_new {w w1 w2 w3 : World} {v2 v3 : Value} {o : Obj} (h1 : w.heap.size ≤ w1.heap.size) (h2 : w1.heap.size ≤ w2.heap.size) (b2 : ∀ k, v2.ownBlock = some k → w1.heap.size ≤ k ∧ k < w2.heap.size) (b3 : v3 = v2 ∨ ∀ k, v3.ownBlock = some k → (w2.alloc o).heap.size ≤ k ∧ k < w3.heap.size) (h3 : w2.heap.size ≤ w3.heap.size) :
    ∀ k, v3.ownBlock = some k → w.heap.size ≤ k ∧ k < w3.heap.size := by
  intro k hk
  rcases b3 with rfl | h
  · have := b2 k hk; omega
  · have := h k hk; simp at this; omega

theorem renc_fin {w2 w3 : World} {v2 v3 : Value} {bs : List Int} {o : Obj} (hs : Sn w3 v3 bs) {w1 : World} (b2 : ∀ k, v2.ownBlock = some k → w1.heap.size ≤ k ∧ k < w2.heap.size) (b3 : v3 = v2 ∨ ∀ k, v3.ownBlock = some k → (w2.alloc o).heap.size ≤ k ∧ k < w3.heap.size) (x y : Value) :
    Sn ((w3.setCell ⟨w2.heap.size, 0, none⟩ x).setCell ⟨w2.heap.size, 1, none⟩ y) v3 bs := by
  refine hs.kept (((Kept.refl (fun k => k = w2.heap.size) w3).setCell (p := ⟨w2.heap.size, 0, none⟩) (fun _ => rfl) x).setCell (p := ⟨w2.heap.size, 1, none⟩) (fun _ => rfl) y) ?_
  intro k hk e
  rcases b3 with rfl | h
  · have := b2 k hk; omega
  · have := (h k hk).1; simp at this; omega

theorem below_set2 {w w3 : World} {q : Nat} (h : Below w.heap.size w w3) (hq : w.heap.size ≤ q) (x y : Value) : Below w.heap.size w ((w3.setCell ⟨q, 0, none⟩ x).setCell ⟨q, 1, none⟩ y) :=
  (h.setCell (p := ⟨q, 0, none⟩) hq x).setCell (p := ⟨q, 1, none⟩) hq y

set_option maxRecDepth 100000 in
set_option maxHeartbeats 1600000 in
theorem rencode_int (i : Int) (h0 : -9223372036854775808 ≤ i) (h1 : i < 9223372036854775808) (w : World) : Calls Try.prog 29 #[vl 1 i emp] w (REncOk (encB 1 i emp) w) := by
  have hB0 := hid (below1 w (vo 1 i emp))
  have hR0 := hid (heap_alloc_new w (vo 1 i emp))
  have hc := rcheck_any 1 i emp
  rw [show chk 1 i emp = 0 by simp [chk]] at hc
  have HC := hid hc
  have HZ := hid (show rintZ ([1], 0) i = (encB 1 i emp, 0) by simp [rintZ, laidZ, encB])
  clear hc
  unfold REncOk
  go_enter Try.func29, Try.ntmps29
  go_wp2_with (first
    | (go_at_call 11
       refine (HC.out _).mono ?_
       rintro e w1 ⟨rfl, hb1⟩
       have g1 := blk_of hb1 hR0.out (by simp)
       obtain ⟨c0, c1, c2, -⟩ := vfacts g1
       have H1 := hid (And.intro g1 (below_on hB0.out hb1))
       clear hb1 g1)
    | (go_at_call 55
       refine (rbyteW_any (.slice none 0 0) ([], 0) 1 _ (sn_nil _) (by simp)).mono ?_
       rintro e w2 ⟨v2, rfl, hs2, hb2, hn2⟩
       rw [show laidZ ([], 0) [1] = ([1], 0) by rfl] at hs2 ⊢
       dsimp only at hs2 ⊢
       have g2 := blk_of hb2 H1.out.1 (lt_of H1.out.1)
       obtain ⟨c0, c1, c2, -⟩ := vfacts g2
       have l2 := lt_of g2
       obtain ⟨ao2, cc2, hv2⟩ := hs2.form
       rw [hv2] at hs2 hn2 ⊢
       have H2 := hid (And.intro g2 (And.intro (below_on H1.out.2 hb2) hs2))
       have Q2 := hid (new_blk hn2)
       have L2 := hid hb2.size
       clear hb2 g2 hs2 hv2 hn2)
    | (go_at_call 56
       refine (rintW_any _ ([1], 0) i _ (H2.out.2.2.below (below1 w2 _)) (by simp) h0 h1).mono ?_
       rintro e w3 ⟨v3, rfl, hs3, hb3, hn3⟩
       rw [HZ.out] at hs3 ⊢
       dsimp only at hs3 ⊢
       have g3 := renc_step H2.out.1 H2.out.2.1 hb3
       obtain ⟨c0, c1, c2, -⟩ := vfacts g3.1
       obtain ⟨d0, d1, fd⟩ := vfacts2 g3.2.1
       have nl := g3.2.2.2
       have ne1 : w2.heap.size ≠ w.heap.size := by omega
       have ne2 : w.heap.size ≠ w2.heap.size := by omega
       obtain ⟨ao3, cc3, hv3⟩ := hs3.form
       rw [hv3] at hs3 hn3 ⊢
       have H3 := hid (And.intro g3 (renc_fin hs3 Q2.out hn3))
       have Q3 := hid (renc_new H1.out.2.size L2.out Q2.out hn3 (by have := lt_of g3.2.1; omega))
       clear hb3 g3 hs3 hv3 hn3))
  go_ret2
  exact ⟨_, rfl, H3.out.2 _ _, below_set2 H3.out.1.2.2.1 (by omega) _ _, fun k hk => (by have := Q3.out k hk; simpa [World.setCell] using this)⟩

set_option maxRecDepth 100000 in
set_option maxHeartbeats 1600000 in
theorem rencode_text (s : ByteArray) (hs : s.size ≤ 256) (w : World) : Calls Try.prog 29 #[vl 2 0 s] w (REncOk (encB 2 0 s) w) := by
  have hB0 := hid (below1 w (vo 2 0 s))
  have hR0 := hid (heap_alloc_new w (vo 2 0 s))
  have hc := rcheck_any 2 0 s
  rw [show chk 2 0 s = 0 by simp [chk]; omega] at hc
  have HC := hid hc
  have HZ := hid (show rtextZ ([2], 0) (strBs s) = (encB 2 0 s, 0) by rw [rtextZ, rnumZ, if_neg (by omega)]; simp [laidZ, encB])
  clear hc
  unfold REncOk
  go_enter Try.func29, Try.ntmps29
  go_wp2_with (first
    | (go_at_call 11
       refine (HC.out _).mono ?_
       rintro e w1 ⟨rfl, hb1⟩
       have g1 := blk_of hb1 hR0.out (by simp)
       obtain ⟨c0, c1, c2, -⟩ := vfacts g1
       have H1 := hid (And.intro g1 (below_on hB0.out hb1))
       clear hb1 g1)
    | (go_at_call 55
       refine (rbyteW_any (.slice none 0 0) ([], 0) 2 _ (sn_nil _) (by simp)).mono ?_
       rintro e w2 ⟨v2, rfl, hs2, hb2, hn2⟩
       rw [show laidZ ([], 0) [2] = ([2], 0) by rfl] at hs2 ⊢
       dsimp only at hs2 ⊢
       have g2 := blk_of hb2 H1.out.1 (lt_of H1.out.1)
       obtain ⟨c0, c1, c2, -⟩ := vfacts g2
       have l2 := lt_of g2
       obtain ⟨ao2, cc2, hv2⟩ := hs2.form
       rw [hv2] at hs2 hn2 ⊢
       have H2 := hid (And.intro g2 (And.intro (below_on H1.out.2 hb2) hs2))
       have Q2 := hid (new_blk hn2)
       have L2 := hid hb2.size
       clear hb2 g2 hs2 hv2 hn2)
    | (go_at_call 57
       refine (rtextW_any _ ([2], 0) s _ (H2.out.2.2.below (below1 w2 _)) (by simp) (by omega)).mono ?_
       rintro e w3 ⟨v3, rfl, hs3, hb3, hn3⟩
       rw [HZ.out] at hs3 ⊢
       dsimp only at hs3 ⊢
       have g3 := renc_step H2.out.1 H2.out.2.1 hb3
       obtain ⟨c0, c1, c2, -⟩ := vfacts g3.1
       obtain ⟨d0, d1, fd⟩ := vfacts2 g3.2.1
       have nl := g3.2.2.2
       have ne1 : w2.heap.size ≠ w.heap.size := by omega
       have ne2 : w.heap.size ≠ w2.heap.size := by omega
       obtain ⟨ao3, cc3, hv3⟩ := hs3.form
       rw [hv3] at hs3 hn3 ⊢
       have H3 := hid (And.intro g3 (renc_fin hs3 Q2.out hn3))
       have Q3 := hid (renc_new H1.out.2.size L2.out Q2.out hn3 (by have := lt_of g3.2.1; omega))
       clear hb3 g3 hs3 hv3 hn3))
  go_ret2
  exact ⟨_, rfl, H3.out.2 _ _, below_set2 H3.out.1.2.2.1 (by omega) _ _, fun k hk => (by have := Q3.out k hk; simpa [World.setCell] using this)⟩

set_option maxRecDepth 100000 in
set_option maxHeartbeats 1600000 in
theorem rencode_none  (w : World) : Calls Try.prog 29 #[vl 0 0 emp] w (REncOk (encB 0 0 emp) w) := by
  have hB0 := hid (below1 w (vo 0 0 emp))
  have hR0 := hid (heap_alloc_new w (vo 0 0 emp))
  have hc := rcheck_any 0 0 emp
  rw [show chk 0 0 emp = 0 by simp [chk]] at hc
  have HC := hid hc
  clear hc
  unfold REncOk
  go_enter Try.func29, Try.ntmps29
  go_wp2_with (first
    | (go_at_call 11
       refine (HC.out _).mono ?_
       rintro e w1 ⟨rfl, hb1⟩
       have g1 := blk_of hb1 hR0.out (by simp)
       obtain ⟨c0, c1, c2, -⟩ := vfacts g1
       have H1 := hid (And.intro g1 (below_on hB0.out hb1))
       clear hb1 g1)
    | (go_at_call 55
       refine (rbyteW_any (.slice none 0 0) ([], 0) 0 _ (sn_nil _) (by simp)).mono ?_
       rintro e w2 ⟨v2, rfl, hs2, hb2, hn2⟩
       rw [show laidZ ([], 0) [0] = ([0], 0) by rfl] at hs2 ⊢
       dsimp only at hs2 ⊢
       have g2 := blk_of hb2 H1.out.1 (lt_of H1.out.1)
       obtain ⟨c0, c1, c2, -⟩ := vfacts g2
       have l2 := lt_of g2
       obtain ⟨ao2, cc2, hv2⟩ := hs2.form
       rw [hv2] at hs2 hn2 ⊢
       have H2 := hid (And.intro g2 (And.intro (below_on H1.out.2 hb2) hs2))
       have Q2 := hid (new_blk hn2)
       have L2 := hid hb2.size
       clear hb2 g2 hs2 hv2 hn2)
)
  go_ret2
  exact ⟨_, rfl, H2.out.2.2.below (below1 w2 _), H2.out.2.1.alloc H2.out.2.1.size _, fun k hk => (by have := Q2.out k hk; have := H1.out.2.size; simp; omega)⟩

theorem rencode_any (k i : Int) (s : ByteArray) (h0 : -9223372036854775808 ≤ i) (h1 : i < 9223372036854775808) (w : World) :
    Calls Try.prog 29 #[vl k i s] w fun e w' => (chk k i s ≠ 0 ∧ EncNo (chk k i s) w e w') ∨ (chk k i s = 0 ∧ REncOk (encB k i s) w e w') := by
  by_cases hc : chk k i s = 0
  · refine Calls.mono (R := REncOk (encB k i s) w) ?_ (fun e w' h => .inr ⟨hc, h⟩)
    unfold chk at hc
    split at hc
    · rename_i hk
      subst hk
      split at hc
      · rename_i hs
        subst hs
        exact rencode_int i h0 h1 w
      · omega
    · split at hc
      · rename_i hk
        subst hk
        split at hc
        · rename_i hi
          subst hi
          split at hc
          · omega
          · exact rencode_text s (by omega) w
        · omega
      · split at hc
        · rename_i hk
          obtain ⟨rfl, rfl, rfl⟩ := hk
          exact rencode_none w
        · omega
  · exact Calls.mono (rencode_no k i s _ rfl hc w) (fun e w' h => .inl ⟨hc, h⟩)

end Go.Proofs.Ytiammlngbejhkaa

namespace Go.Proofs.Ytiammlngbejhkaa
open Go.RowKit

theorem vcell {w w1 : World} {r : Nat} {a b c : Value} (h : w.heap[r]? = some (.cells #[a, b, c] 23 (0, 0))) (hb : Below w.heap.size w w1) : w1.heap[r]? = some (.cells #[a, b, c] 23 (0, 0)) := blk_of hb h (lt_of h)

/-- Within DatumEncodes: a's block, b's block, what is wanted, the argument's block. -/
structure Est (w W : World) (gA gB : Nat) (vW : Value) (o : Obj) (bs : List Int) : Prop where
  hv : W.heap[w.heap.size]? = some o
  hb : Below w.heap.size w W
  ob : Own W gB bs
  sw : Sn W vW bs
  nw : ∀ k, vW.ownBlock = some k → k ≠ gA
  nb : gB ≠ gA
  na : w.heap.size < gA

theorem Est.kept {w W W' : World} {gA gB : Nat} {vW : Value} {o : Obj} {bs : List Int} (h : Est w W gA gB vW o bs) (hk : Kept (fun k => k = gA) W W') : Est w W' gA gB vW o bs :=
  ⟨(hk.block _ (lt_of h.hv) (by have := h.na; omega)).trans h.hv, h.hb.trans (hk.below h.hb.size (fun k h1 h2 => by have := h.na; omega)), (hk.block _ (lt_of h.ob) h.nb).trans h.ob, h.sw.kept hk h.nw, h.nw, h.nb, h.na⟩

theorem Est.below {w W W' : World} {gA gB : Nat} {vW : Value} {o : Obj} {bs : List Int} (h : Est w W gA gB vW o bs) (hb : Below W.heap.size W W') : Est w W' gA gB vW o bs :=
  h.kept ((Kept.ofBelow hb).mono (fun _ _ h => h.elim))

theorem Own.set {w : World} {g : Nat} {la : List Int} (h : Own w g la) (j : Nat) (y : Int) : Own (w.setCell ⟨g, j, none⟩ (.int .u8 y)) g (la.set j y) := by
  unfold Own at *
  simp [World.setCell, Array.getElem?_modify, h, B8]

theorem Own.cell {w : World} {g : Nat} {la : List Int} (h : Own w g la) {j : Nat} (hj : j < la.length) : ∃ x, w.cell? ⟨g, j, none⟩ = some (.int .u8 x) := by
  unfold Own at h
  refine ⟨la[j], ?_⟩
  rw [cell_of_row w g j _ 5 (0, 0) h]
  simp [B8, hj]

theorem enc_app {ws wr w7 : World} {B gA n m gg cq : Nat} {ao : Option Addr} {cc : Nat} {lc : List Int} {o : Obj} (hk : Kept (fun k => k = gA) ws wr) (hb : (Value.slice ao (n + m) cc).ownBlock = some gA ∨ ∃ k, ws.heap.size ≤ k ∧ (Value.slice ao (n + m) cc).ownBlock = some k)
    (ho : w7.ownsRow B 5 1 (.slice (some ⟨gg, 0, none⟩) (n + m + 1) cq) (n + m + 1) (B8 lc ++ [.int .u8 201])) (hg : (wr.alloc o).grownBy w7 (Value.slice ao (n + m) cc).ownBlock) (hat : (Value.slice ao (n + m) cc).ownBlock = some gg ∨ gg = wr.heap.size + 1) :
    w7.ownsRow B 5 1 (.slice (some ⟨gg, 0, none⟩) (n + (m + 1)) cq) (n + (m + 1)) (B8 (lc ++ [201])) ∧ ((Value.slice (some ⟨gg, 0, none⟩) (n + (m + 1)) cq).ownBlock = some gA ∨ ∃ k, ws.heap.size ≤ k ∧ (Value.slice (some ⟨gg, 0, none⟩) (n + (m + 1)) cq).ownBlock = some k) ∧ Kept (fun k => k = gA) ws w7 := by
  refine ⟨by rw [← Nat.add_assoc]; simpa [B8] using ho, ?_, ?_⟩
  · rcases hat with h | h
    · rcases hb with h2 | ⟨k, h2, h3⟩
      · rw [h] at h2; exact .inl h2
      · rw [h] at h3; exact .inr ⟨gg, by injection h3 with h3; omega, rfl⟩
    · exact .inr ⟨gg, by have := hk.size; omega, rfl⟩
  · refine (hk.alloc o).grown hg ?_
    intro k hk2 e
    rcases hb with h2 | ⟨j, h2, h3⟩
    · rw [e] at h2; injection h2
    · rw [e] at h3; injection h3 with h3; omega

theorem encB_len (k i : Int) (s : ByteArray) (h : s.size ≤ 100000) : (encB k i s).length ≤ 1000000 := by
  unfold encB
  split
  · have := rowF_le 10 (foldZ i); simp; omega
  · split
    · have := rowF_le 10 (strBs s).length; simp [strBs_len] at *; omega
    · simp

set_option maxRecDepth 100000 in
set_option maxHeartbeats 3200000 in
theorem encodes_ok (k i : Int) (s : ByteArray) (h0 : -9223372036854775808 ≤ i) (h1 : i < 9223372036854775808) (hc : chk k i s = 0) (hl : (s.size : Int) ≤ 100000) (w : World) : Calls Try.prog 4 #[vl k i s] w fun x w' => x = .returned (.bool true) ∧ Below w.heap.size w w' := by
  have hE := fun w => encode_any k i s h0 h1 w
  have hR := fun w => rencode_any k i s h0 h1 w
  have hE' : ∀ w, Calls Try.prog 28 #[vl k i s] w (EncOk (encB k i s) w) := fun w => (hE w).mono (fun e w' h => by rcases h with ⟨h, _⟩ | ⟨_, h⟩; exact absurd hc h; exact h)
  have hR' : ∀ w, Calls Try.prog 29 #[vl k i s] w (REncOk (encB k i s) w) := fun w => (hR w).mono (fun e w' h => by rcases h with ⟨h, _⟩ | ⟨_, h⟩; exact absurd hc h; exact h)
  obtain ⟨bs, hbs⟩ : ∃ bs, bs = encB k i s := ⟨_, rfl⟩
  have hbl : bs.length ≤ 1000000 := by rw [hbs]; exact encB_len k i s (by omega)
  rw [← hbs] at hE' hR'
  have HE := hid hE'
  have HR := hid hR'
  clear hE hR hE' hR' hbs hc
  have hB0 := hid (below1 w (vo k i s))
  have hR0 := hid (heap_alloc_new w (vo k i s))
  go_enter Try.func4, Try.ntmps4
  go_upto_region 6 with (first
    | (go_at_call 28
       (with_reducible show Calls _ _ _ (w.alloc _) _)
       refine (HE.out _).mono ?_
       rintro e w1 ⟨gA, rfl, hoA, hgA, hb1⟩
       have g1 := vcell hR0.out hb1
       obtain ⟨c0, c1, c2, -⟩ := vfacts g1
       have H1 := hid (And.intro g1 (And.intro (below_on hB0.out hb1) (And.intro hoA hgA)))
       clear hb1 g1 hoA hgA)
    | (go_at_call 28
       (with_reducible show Calls _ _ _ w1 _)
       refine (HE.out _).mono ?_
       rintro e w2 ⟨gB, rfl, hoB, hgB, hb2⟩
       have g2 := vcell H1.out.1 hb2
       obtain ⟨c0, c1, c2, -⟩ := vfacts g2
       have H2 := hid (And.intro g2 (And.intro (below_on H1.out.2.1 hb2) (And.intro (blk_of hb2 H1.out.2.2.1 (lt_of H1.out.2.2.1)) (And.intro hoB hgB))))
       clear hb2 g2 hoB hgB)
    | (go_at_call 29
       refine (HR.out _).mono ?_
       rintro e w3 ⟨vW, rfl, hsW, hb3, hnW⟩
       obtain ⟨aoW, ccW, rfl⟩ := hsW.form
       have H3 := hid (And.intro (vcell H2.out.1 hb3) (And.intro (below_on H2.out.2.1 hb3) (And.intro (blk_of hb3 H2.out.2.2.1 (lt_of H2.out.2.2.1)) (And.intro (blk_of hb3 H2.out.2.2.2.1 (lt_of H2.out.2.2.2.1)) (And.intro hsW hnW)))))
       clear hb3 hsW hnW))
  have ES := hid (show Est w w3 gA gB (.slice aoW bs.length ccW) (vo k i s) bs ∧ Own w3 gA bs from
    ⟨⟨H3.out.1, H3.out.2.1, H3.out.2.2.2.1, H3.out.2.2.2.2.1, fun k hk => (by have := H3.out.2.2.2.2.2 k hk; have := lt_of H2.out.2.2.1; omega), (by have := H2.out.2.2.2.2; have := lt_of H1.out.2.2.1; omega), (by have := H1.out.2.2.2; have : (w.alloc (vo k i s)).heap.size ≤ gA := this; simp at this; omega)⟩, H3.out.2.2.1⟩)
  clear H1 H2 H3 c0 c1 c2
  go_wp2_with (first
    | (go_at_call 30
       (with_reducible show Calls _ _ _ w3 _)
       refine (bytes_any _ _ bs bs _ (sl_of_owns (ES.out.2.owns (Nat.zero_le _) (by unfold maxLen; omega))) ES.out.1.sw.1 (by omega)).mono ?_
       rintro e w4 ⟨⟨nq, e4⟩, rfl⟩
       rw [show decide (bs = bs) = true by simp]
       have hb4 : Below w3.heap.size w3 w4 := by rw [e4]; exact ⟨rfl, rfl, rfl, Nat.le_refl _, fun _ _ => rfl⟩
       have E4 := hid (And.intro (ES.out.1.below hb4) (blk_of hb4 ES.out.2 (lt_of ES.out.2)))
       clear e4 hb4)
    | (go_at_call 30
       (with_reducible show Calls _ _ _ w4 _)
       refine (bytes_any _ _ bs bs _ (sl_of_owns (E4.out.1.ob.owns (Nat.zero_le _) (by unfold maxLen; omega))) E4.out.1.sw.1 (by omega)).mono ?_
       rintro e w5 ⟨⟨nq5, e5⟩, rfl⟩
       rw [show decide (bs = bs) = true by simp]
       have hb5 : Below w4.heap.size w4 w5 := by rw [e5]; exact ⟨rfl, rfl, rfl, Nat.le_refl _, fun _ _ => rfl⟩
       have E5 := hid (And.intro (E4.out.1.below hb5) (blk_of hb5 E4.out.2 (lt_of E4.out.2)))
       clear e5 hb5))
  go_loopw [9] (fun ix wr => ∃ (n : Nat) (la : List Int), n ≤ bs.length ∧ ix = .int .i64 n ∧ Hid (Est w wr gA gB (.slice aoW bs.length ccW) (vo k i s) bs) ∧ Hid (Own wr gA la) ∧ Hid (la.length = bs.length)) (fun ix _ => bs.length - (intOf ix).toNat)
  case atStart => exact ⟨0, bs, Nat.zero_le _, rfl, hid E5.out.1, hid E5.out.2, hid rfl⟩
  case round =>
    obtain ⟨n, la, hn, rfl, hE, hO, hL⟩ := hrel
    by_cases hlt : n < bs.length
    · obtain ⟨x, hx⟩ := hO.out.cell (j := n) (by rw [hL.out]; exact hlt)
      have hf : wr.frozen? ⟨gA, n, none⟩ = false := free_of_block hO.out
      have i1 : (0 : Int) ≤ (n : Int) := by omega
      have i2 : (n : Int) < (bs.length : Int) := by omega
      go_wp2
      refine ⟨⟨n + 1, la.set n 200, by omega, by simp, hid (hE.out.kept (Kept.setCell (p := ⟨gA, n, none⟩) (Kept.refl (fun k => k = gA) wr) (fun _ => rfl) _)), hid (hO.out.set n 200), hid (by rw [List.length_set]; exact hL.out)⟩, by simp [intOf]; omega⟩
    · have hge : n = bs.length := by omega
      subst hge
      go_wp2
      rename World => ws
      go_loopw [10, 11] (fun cv ix wr => ∃ (m : Nat) (lc : List Int) (ao : Option Addr) (cc : Nat), m ≤ 40 ∧ ix = .int .i64 m ∧ cv = .slice ao (bs.length + m) cc ∧ Hid (wr.ownsRow w.heap.size 5 1 (.slice ao (bs.length + m) cc) (bs.length + m) (B8 lc)) ∧ Hid ((Value.slice ao (bs.length + m) cc).ownBlock = some gA ∨ ∃ k, ws.heap.size ≤ k ∧ (Value.slice ao (bs.length + m) cc).ownBlock = some k) ∧ Hid (Kept (fun k => k = gA) ws wr)) (fun _ ix _ => 40 - (intOf ix).toNat)
      case atStart => exact ⟨0, la, some ⟨gA, 0, none⟩, bs.length, Nat.zero_le _, rfl, rfl, hid (by have := hO.out.owns (B := w.heap.size) (Nat.le_of_lt hE.out.na) (by rw [hL.out]; unfold maxLen; omega); rw [hL.out] at this; exact this), hid (.inl rfl), hid (Kept.refl _ _)⟩
      case round =>
        obtain ⟨m, lc, aoC, ccC, hm, rfl, rfl, hC, hCb, hK⟩ := hrel
        by_cases hlt2 : m < 40
        · have i1 : (m : Int) < 40 := by omega
          obtain ⟨i0, hi, hz0, hz1, hz2⟩ := info_parts Try.info5
          go_wp2_with (at_builtin; go_loud (
            refine wpList_append_lies _ rfl _ _ _ rfl w.heap.size 5 i0 (.int .u8 0) 1 1 Try.underlying40 hi hz0 hz1 hz2 rfl (by omega) _ (bs.length + m) (B8 lc) rfl (hC.out.alloc _) ⟨wr.heap.size, 0, none⟩ 1 1 [.int .u8 201] rfl rfl (World.news_of_block (cs := #[.int .u8 201]) (t := 5) (fr := (0, 0)) (heap_alloc_new wr _)) (by simp [Value.oneCell']) (by omega) (by unfold maxLen; omega) (by omega) (by have := hE.out.hb.size; have := hK.out.size; simp; omega) (wr.heap.size + 1) (by simp) ?_
            intro gg cq w7 hown hgrow hat hgl
            have H7 := hid (enc_app hK.out hCb.out hown hgrow hat)
            clear hown hgrow hat hgl))
          exact ⟨⟨m + 1, lc ++ [201], some ⟨gg, 0, none⟩, cq, by omega, by simp, rfl, hid H7.out.1, hid H7.out.2.1, hid H7.out.2.2⟩, by simp [intOf]; omega⟩
        · have hm40 : m = 40 := by omega
          subst hm40
          have E6 := hid (hE.out.kept hK.out)
          clear hC hCb hK hE hO hL
          go_wp2_with (first
            | (go_at_call 30
               (with_reducible show Calls _ _ _ wr _)
               refine (bytes_any _ _ bs bs _ (sl_of_owns (E6.out.ob.owns (Nat.zero_le _) (by unfold maxLen; omega))) E6.out.sw.1 (by omega)).mono ?_
               rintro e w8 ⟨⟨nq8, e8⟩, rfl⟩
               rw [show decide (bs = bs) = true by simp]
               have hb8 : Below wr.heap.size wr w8 := by rw [e8]; exact ⟨rfl, rfl, rfl, Nat.le_refl _, fun _ _ => rfl⟩
               have E8 := hid (E6.out.below hb8)
               obtain ⟨c0, c1, c2, -⟩ := vfacts E8.out.hv
               clear e8 hb8)
            | (go_at_call 28
               refine (HE.out _).mono ?_
               rintro e w9 ⟨gD, rfl, hoD, hgD, hb9⟩
               have E9 := hid (And.intro (E8.out.below hb9) hoD)
               clear hb9 hgD hoD)
            | (go_at_call 30
               (with_reducible show Calls _ _ _ w9 _)
               refine (bytes_any _ _ bs bs _ (sl_of_owns (E9.out.2.owns (Nat.zero_le _) (by unfold maxLen; omega))) E9.out.1.sw.1 (by omega)).mono ?_
               rintro e wa ⟨⟨nqa, ea⟩, rfl⟩
               rw [show decide (bs = bs) = true by simp]
               have hba : Below w9.heap.size w9 wa := by rw [ea]; exact ⟨rfl, rfl, rfl, Nat.le_refl _, fun _ _ => rfl⟩
               have EA := hid (E9.out.1.below hba)
               clear ea hba)
            | (go_at_call 9
               refine (known_any _).mono ?_
               rintro e wb ⟨rfl, hbb⟩
               have HB := hid (below_on EA.out.hb hbb)
               clear hbb))
          go_ret
          exact ⟨rfl, HB.out⟩

end Go.Proofs.Ytiammlngbejhkaa
