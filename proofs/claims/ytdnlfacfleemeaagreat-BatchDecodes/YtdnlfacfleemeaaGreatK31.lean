import Derived.Test.YtdnlfacfleemeaaGreatK27
import Derived.Test.YtdnlfacfleemeaaGreatK30
import Derived.Test.YtdnlfacfleemeaaGreatK24
import Derived.Test.YtdnlfacfleemeaaGreatK15
import Derived.Test.YtdnlfacfleemeaaGreatK16
import Derived.Test.YtdnlfacfleemeaaGreatK29
import Derived.Test.YtdnlfacfleemeaaGreatK09
namespace Go.Proofs.YtdnlfacfleemeaaGreat
open Go.RowKit Go.Lib

theorem vfacts2k {w : World} {r : Nat} {a b : Value} {t : TypeId} (h : w.heap[r]? = some (.cells #[a, b] t (0, 0))) :
    w.cell? ⟨r, 0, none⟩ = some a ∧ w.cell? ⟨r, 1, none⟩ = some b ∧ ∀ o, w.frozen? ⟨r, o, none⟩ = false := by
  refine ⟨?_, ?_, fun o => by simp [World.frozen?, h]⟩ <;> (rw [cell_of_row w _ _ _ _ _ h]; rfl)

/-- What the document's Encode answers of a value. -/
def REncOk (bs : List Int) (w : World) (e : Ending) (w' : World) : Prop := ∃ v, e = .returned (.tuple #[v, .int .i64 0]) ∧ Sn w' v bs ∧ Below w.heap.size w w' ∧ ∀ k, v.ownBlock = some k → w.heap.size ≤ k ∧ k < w'.heap.size

set_option maxRecDepth 100000 in
set_option maxHeartbeats 800000 in
theorem rencode_no (k i : Int) (s : ByteArray) (r : Int) (hr : chk k i s = r) (h0 : r ≠ 0) (w : World) : Calls Tryz.prog 52 #[vl k i s] w (EncNo r w) := by
  have hB0 := hid (below1 w (vo k i s))
  have hc := rcheck_any k i s
  rw [hr] at hc
  have HC := hid hc
  have hb : (r == 0) = false := by simpa using h0
  clear hc hr
  unfold EncNo
  go_enter Tryz.func52, Tryz.ntmps52
  go_wp2_with (
    go_at_call 38
    refine (HC.out _).mono ?_
    rintro e w1 ⟨rfl, hb1⟩
    have H1 := hid (below_on hB0.out hb1)
    clear hb1)
  go_ret2
  exact ⟨rfl, H1.out⟩

/-- Behind a call on the document's Writer: where its block is. -/
theorem renc_step {w w2 w3 : World} {a b c v2 e2 : Value} (h1 : w2.heap[w.heap.size]? = some (.cells #[a, b, c] 51 (0, 0))) (h2 : Below w.heap.size w w2) (hb : Below (w2.alloc (.cells #[v2, e2] 66)).heap.size (w2.alloc (.cells #[v2, e2] 66)) w3) :
    w3.heap[w.heap.size]? = some (.cells #[a, b, c] 51 (0, 0)) ∧ w3.heap[w2.heap.size]? = some (.cells #[v2, e2] 66 (0, 0)) ∧ Below w.heap.size w w3 ∧ w.heap.size < w2.heap.size := by
  have hl := lt_of h1
  exact ⟨blk_of hb ((Below.heap_alloc _ _ _ hl).trans h1) (by simp; omega), blk_of hb (heap_alloc_new w2 _) (by simp), (h2.alloc h2.size _).trans (hb.mono (h2.alloc h2.size _).size), hl⟩

theorem new_blk {w w2 : World} {v : Value} (h : v = .slice none 0 0 ∨ ∀ k, v.ownBlock = some k → w.heap.size ≤ k ∧ k < w2.heap.size) : ∀ k, v.ownBlock = some k → w.heap.size ≤ k ∧ k < w2.heap.size := by
  rcases h with rfl | h
  · intro k hk; simp [Value.ownBlock] at hk
  · exact h

theorem renc_new {w w1 w2 w3 : World} {v2 v3 : Value} {o : Obj} (h1 : w.heap.size ≤ w1.heap.size) (h2 : w1.heap.size ≤ w2.heap.size) (b2 : ∀ k, v2.ownBlock = some k → w1.heap.size ≤ k ∧ k < w2.heap.size) (b3 : v3 = v2 ∨ ∀ k, v3.ownBlock = some k → (w2.alloc o).heap.size ≤ k ∧ k < w3.heap.size) (h3 : w2.heap.size ≤ w3.heap.size) :
    ∀ k, v3.ownBlock = some k → w.heap.size ≤ k ∧ k < w3.heap.size := by
  intro k hk
  rcases b3 with rfl | h
  · have := b2 k hk; omega
  · have := h k hk; simp at this; omega

theorem renc_fin {w2 w3 : World} {v2 v3 : Value} {bs : List Int} {o : Obj} (hs : Sn w3 v3 bs) {w1 : World} (b2 : ∀ k, v2.ownBlock = some k → w1.heap.size ≤ k ∧ k < w2.heap.size) (b3 : v3 = v2 ∨ ∀ k, v3.ownBlock = some k → (w2.alloc o).heap.size ≤ k ∧ k < w3.heap.size) (x y : Value) :
    Sn ((w3.setCell ⟨w2.heap.size, 0, none⟩ x).setCell ⟨w2.heap.size, 1, none⟩ y) v3 bs := by
  refine hs.kept (((Kept.refl (fun k => k = w2.heap.size) w3).setCell (p := ⟨w2.heap.size, 0, none⟩) (fun _ => rfl) x).setCell (p := ⟨w2.heap.size, 1, none⟩) (fun _ => rfl) y) ?_
  intro k hk e
  rcases b3 with rfl | h
  · have := b2 k hk; omega
  · have := (h k hk).1; simp at this; omega

theorem below_set2 {w w3 : World} {q : Nat} (h : Below w.heap.size w w3) (hq : w.heap.size ≤ q) (x y : Value) : Below w.heap.size w ((w3.setCell ⟨q, 0, none⟩ x).setCell ⟨q, 1, none⟩ y) :=
  (h.setCell (p := ⟨q, 0, none⟩) hq x).setCell (p := ⟨q, 1, none⟩) hq y

set_option maxRecDepth 100000 in
set_option maxHeartbeats 1600000 in
theorem rencode_int (i : Int) (h0 : -9223372036854775808 ≤ i) (h1 : i < 9223372036854775808) (w : World) : Calls Tryz.prog 52 #[vl 1 i emp] w (REncOk (encB 1 i emp) w) := by
  have hB0 := hid (below1 w (vo 1 i emp))
  have hR0 := hid (heap_alloc_new w (vo 1 i emp))
  have hc := rcheck_any 1 i emp
  rw [show chk 1 i emp = 0 by simp [chk]] at hc
  have HC := hid hc
  have HZ := hid (show rintZ ([1], 0) i = (encB 1 i emp, 0) by simp [rintZ, laidZ, encB])
  clear hc
  unfold REncOk
  go_enter Tryz.func52, Tryz.ntmps52
  go_wp2_with (first
    | (go_at_call 38
       refine (HC.out _).mono ?_
       rintro e w1 ⟨rfl, hb1⟩
       have g1 := blk_of hb1 hR0.out (by simp)
       obtain ⟨c0, c1, c2, -⟩ := vfacts g1
       have H1 := hid (And.intro g1 (below_on hB0.out hb1))
       clear hb1 g1)
    | (go_at_call 49
       refine (rbyteW_any (.slice none 0 0) ([], 0) 1 _ (sn_nil _) (by simp)).mono ?_
       rintro e w2 ⟨v2, rfl, hs2, hb2, hn2⟩
       rw [show laidZ ([], 0) [1] = ([1], 0) by rfl] at hs2 ⊢
       dsimp only at hs2 ⊢
       have g2 := blk_of hb2 H1.out.1 (lt_of H1.out.1)
       obtain ⟨c0, c1, c2, -⟩ := vfacts g2
       have l2 := lt_of g2
       obtain ⟨ao2, cc2, hv2⟩ := hs2.form
       rw [hv2] at hs2 hn2 ⊢
       have H2 := hid (And.intro g2 (And.intro (below_on H1.out.2 hb2) hs2))
       have Q2 := hid (new_blk hn2)
       have L2 := hid hb2.size
       clear hb2 g2 hs2 hv2 hn2)
    | (go_at_call 75
       refine (rintW_any _ ([1], 0) i _ (H2.out.2.2.below (below1 w2 _)) (by simp) h0 h1).mono ?_
       rintro e w3 ⟨v3, rfl, hs3, hb3, hn3⟩
       rw [HZ.out] at hs3 ⊢
       dsimp only at hs3 ⊢
       have g3 := renc_step H2.out.1 H2.out.2.1 hb3
       obtain ⟨c0, c1, c2, -⟩ := vfacts g3.1
       obtain ⟨d0, d1, fd⟩ := vfacts2k g3.2.1
       have nl := g3.2.2.2
       have ne1 : w2.heap.size ≠ w.heap.size := by omega
       have ne2 : w.heap.size ≠ w2.heap.size := by omega
       obtain ⟨ao3, cc3, hv3⟩ := hs3.form
       rw [hv3] at hs3 hn3 ⊢
       have H3 := hid (And.intro g3 (renc_fin hs3 Q2.out hn3))
       have Q3 := hid (renc_new H1.out.2.size L2.out Q2.out hn3 (by have := lt_of g3.2.1; omega))
       clear hb3 g3 hs3 hv3 hn3))
  go_ret2
  exact ⟨_, rfl, H3.out.2 _ _, below_set2 H3.out.1.2.2.1 (by omega) _ _, fun k hk => (by have := Q3.out k hk; simpa [World.setCell] using this)⟩

set_option maxRecDepth 100000 in
set_option maxHeartbeats 1600000 in
theorem rencode_text (s : ByteArray) (hs : s.size ≤ 256) (w : World) : Calls Tryz.prog 52 #[vl 2 0 s] w (REncOk (encB 2 0 s) w) := by
  have hB0 := hid (below1 w (vo 2 0 s))
  have hR0 := hid (heap_alloc_new w (vo 2 0 s))
  have hc := rcheck_any 2 0 s
  rw [show chk 2 0 s = 0 by simp [chk]; omega] at hc
  have HC := hid hc
  have HZ := hid (show rtextZ ([2], 0) (strBs s) = (encB 2 0 s, 0) by rw [rtextZ, rnumZ, if_neg (by omega)]; simp [laidZ, encB])
  clear hc
  unfold REncOk
  go_enter Tryz.func52, Tryz.ntmps52
  go_wp2_with (first
    | (go_at_call 38
       refine (HC.out _).mono ?_
       rintro e w1 ⟨rfl, hb1⟩
       have g1 := blk_of hb1 hR0.out (by simp)
       obtain ⟨c0, c1, c2, -⟩ := vfacts g1
       have H1 := hid (And.intro g1 (below_on hB0.out hb1))
       clear hb1 g1)
    | (go_at_call 49
       refine (rbyteW_any (.slice none 0 0) ([], 0) 2 _ (sn_nil _) (by simp)).mono ?_
       rintro e w2 ⟨v2, rfl, hs2, hb2, hn2⟩
       rw [show laidZ ([], 0) [2] = ([2], 0) by rfl] at hs2 ⊢
       dsimp only at hs2 ⊢
       have g2 := blk_of hb2 H1.out.1 (lt_of H1.out.1)
       obtain ⟨c0, c1, c2, -⟩ := vfacts g2
       have l2 := lt_of g2
       obtain ⟨ao2, cc2, hv2⟩ := hs2.form
       rw [hv2] at hs2 hn2 ⊢
       have H2 := hid (And.intro g2 (And.intro (below_on H1.out.2 hb2) hs2))
       have Q2 := hid (new_blk hn2)
       have L2 := hid hb2.size
       clear hb2 g2 hs2 hv2 hn2)
    | (go_at_call 51
       refine (rtextW_any _ ([2], 0) s _ (H2.out.2.2.below (below1 w2 _)) (by simp) (by omega)).mono ?_
       rintro e w3 ⟨v3, rfl, hs3, hb3, hn3⟩
       rw [HZ.out] at hs3 ⊢
       dsimp only at hs3 ⊢
       have g3 := renc_step H2.out.1 H2.out.2.1 hb3
       obtain ⟨c0, c1, c2, -⟩ := vfacts g3.1
       obtain ⟨d0, d1, fd⟩ := vfacts2k g3.2.1
       have nl := g3.2.2.2
       have ne1 : w2.heap.size ≠ w.heap.size := by omega
       have ne2 : w.heap.size ≠ w2.heap.size := by omega
       obtain ⟨ao3, cc3, hv3⟩ := hs3.form
       rw [hv3] at hs3 hn3 ⊢
       have H3 := hid (And.intro g3 (renc_fin hs3 Q2.out hn3))
       have Q3 := hid (renc_new H1.out.2.size L2.out Q2.out hn3 (by have := lt_of g3.2.1; omega))
       clear hb3 g3 hs3 hv3 hn3))
  go_ret2
  exact ⟨_, rfl, H3.out.2 _ _, below_set2 H3.out.1.2.2.1 (by omega) _ _, fun k hk => (by have := Q3.out k hk; simpa [World.setCell] using this)⟩

set_option maxRecDepth 100000 in
set_option maxHeartbeats 1600000 in
theorem rencode_none  (w : World) : Calls Tryz.prog 52 #[vl 0 0 emp] w (REncOk (encB 0 0 emp) w) := by
  have hB0 := hid (below1 w (vo 0 0 emp))
  have hR0 := hid (heap_alloc_new w (vo 0 0 emp))
  have hc := rcheck_any 0 0 emp
  rw [show chk 0 0 emp = 0 by simp [chk]] at hc
  have HC := hid hc
  clear hc
  unfold REncOk
  go_enter Tryz.func52, Tryz.ntmps52
  go_wp2_with (first
    | (go_at_call 38
       refine (HC.out _).mono ?_
       rintro e w1 ⟨rfl, hb1⟩
       have g1 := blk_of hb1 hR0.out (by simp)
       obtain ⟨c0, c1, c2, -⟩ := vfacts g1
       have H1 := hid (And.intro g1 (below_on hB0.out hb1))
       clear hb1 g1)
    | (go_at_call 49
       refine (rbyteW_any (.slice none 0 0) ([], 0) 0 _ (sn_nil _) (by simp)).mono ?_
       rintro e w2 ⟨v2, rfl, hs2, hb2, hn2⟩
       rw [show laidZ ([], 0) [0] = ([0], 0) by rfl] at hs2 ⊢
       dsimp only at hs2 ⊢
       have g2 := blk_of hb2 H1.out.1 (lt_of H1.out.1)
       obtain ⟨c0, c1, c2, -⟩ := vfacts g2
       have l2 := lt_of g2
       obtain ⟨ao2, cc2, hv2⟩ := hs2.form
       rw [hv2] at hs2 hn2 ⊢
       have H2 := hid (And.intro g2 (And.intro (below_on H1.out.2 hb2) hs2))
       have Q2 := hid (new_blk hn2)
       have L2 := hid hb2.size
       clear hb2 g2 hs2 hv2 hn2)
)
  go_ret2
  exact ⟨_, rfl, H2.out.2.2.below (below1 w2 _), H2.out.2.1.alloc H2.out.2.1.size _, fun k hk => (by have := Q2.out k hk; have := H1.out.2.size; simp; omega)⟩

theorem rencode_any (k i : Int) (s : ByteArray) (h0 : -9223372036854775808 ≤ i) (h1 : i < 9223372036854775808) (w : World) :
    Calls Tryz.prog 52 #[vl k i s] w fun e w' => (chk k i s ≠ 0 ∧ EncNo (chk k i s) w e w') ∨ (chk k i s = 0 ∧ REncOk (encB k i s) w e w') := by
  by_cases hc : chk k i s = 0
  · refine Calls.mono (R := REncOk (encB k i s) w) ?_ (fun e w' h => .inr ⟨hc, h⟩)
    unfold chk at hc
    split at hc
    · rename_i hk
      subst hk
      split at hc
      · rename_i hs
        subst hs
        exact rencode_int i h0 h1 w
      · omega
    · split at hc
      · rename_i hk
        subst hk
        split at hc
        · rename_i hi
          subst hi
          split at hc
          · omega
          · exact rencode_text s (by omega) w
        · omega
      · split at hc
        · rename_i hk
          obtain ⟨rfl, rfl, rfl⟩ := hk
          exact rencode_none w
        · omega
  · exact Calls.mono (rencode_no k i s _ rfl hc w) (fun e w' h => .inl ⟨hc, h⟩)

end Go.Proofs.YtdnlfacfleemeaaGreat

namespace Go.Proofs.YtdnlfacfleemeaaGreat
open Go.RowKit Go.Lib

/-- An instruction behind a list's end. -/
def markI (i : Int) : Ins := ⟨wrap64 (77 + i), -1, 0, 0, 0, 9, 0, ⟨#[109, 97, 114, 107]⟩⟩

/-- While a twin is made. -/
structure Tws (w W : World) (nm : ByteArray) (ar : Int) (S L : Value) (ys : List Ins) : Prop where
  r0 : W.heap[w.heap.size]? = some (po nm ar S)
  r1 : W.heap[w.heap.size + 1]? = some (po emp 0 (.slice none 0 0))
  ow : W.ownsRow (w.heap.size + 1 + 1) 53 8 L ys.length (ys.flatMap Ins.cells)
  hb : Below w.heap.size w W

theorem Tws.below {w W W' : World} {nm : ByteArray} {ar : Int} {S L : Value} {ys : List Ins} (h : Tws w W nm ar S L ys) (hb : Below W.heap.size W W') : Tws w W' nm ar S L ys :=
  ⟨blk_of hb h.r0 (lt_of h.r0), blk_of hb h.r1 (lt_of h.r1), ownsRow_kept h.ow (Kept.ofBelow hb) (fun _ _ h => h), below_on h.hb hb⟩

theorem Tws.app {w W W1 : World} {nm : ByteArray} {ar : Int} {S L L' : Value} {ys zs : List Ins} (h : Tws w W nm ar S L ys) (hown : W1.ownsRow (w.heap.size + 1 + 1) 53 8 L' (ys.length + zs.length) (ys.flatMap Ins.cells ++ zs.flatMap Ins.cells)) (hg : W.grownBy W1 L.ownBlock) :
    Tws w W1 nm ar S L' (ys ++ zs) := by
  have hne : ∀ r, r < w.heap.size + 1 + 1 → L.ownBlock ≠ some r := fun r hr e => by have := (h.ow.lt r e).1; omega
  refine ⟨(hg.block _ (lt_of h.r0) (fun e => hne _ (by omega) e.symm)).trans h.r0, (hg.block _ (lt_of h.r1) (fun e => hne _ (by omega) e.symm)).trans h.r1, ?_, h.hb.grown hg h.hb.size (fun k hk => by have := (h.ow.lt k hk).1; omega)⟩
  rw [← List.flatMap_append] at hown
  rw [List.length_append]
  exact hown

theorem Tws.row {w W : World} {nm : ByteArray} {ar : Int} {S L : Value} {ys : List Ins} {n : Nat} {o : Obj} (h : Tws w W nm ar S L ys) (hn : ys.length = n) : (W.alloc o).ownsRow (w.heap.size + 1 + 1) 53 8 L n (ys.flatMap Ins.cells) := by
  rw [← hn]
  exact h.ow.alloc _

theorem Tws.base {w W : World} {nm : ByteArray} {ar : Int} {S L : Value} {ys : List Ins} (h : Tws w W nm ar S L ys) (o : Obj) : w.heap.size + 1 + 1 ≤ (W.alloc o).heap.size := by
  have := lt_of h.r1
  simp
  omega

theorem rf_new (w : World) (x : Ins) : Rf (w.alloc (io x.op x.a x.b x.c x.n x.k x.i x.t)) 8 (.slice (some ⟨w.heap.size, 0, none⟩) 1 1) 1 ([x].flatMap Ins.cells) :=
  rf_of_owns (owns_new w 0 x (Nat.zero_le _)) (all_one _)

theorem Tws.list {w W : World} {nm : ByteArray} {ar : Int} {S : Value} {ao : Option Addr} {n c : Nat} {ys : List Ins} (h : Tws w W nm ar S (.slice ao (n + 9) c) (ys ++ (List.range 9).map (fun i : Nat => markI (i : Int)))) :
    ∃ g cur, ao = some ⟨g, 0, none⟩ ∧ w.heap.size + 1 + 1 ≤ g ∧ n + 9 ≤ c ∧ W.heap[g]? = some (.cells cur 53 (0, 0)) ∧ ∀ (j : Nat) (x : Ins), (ys ++ (List.range 9).map (fun i : Nat => markI (i : Int)))[j]? = some x → InsAt W g (j * 8) x := by
  have hc := code_of_rf (rf_of_owns h.ow (all_one _))
  rcases h.ow.2 with ⟨_, e2⟩ | ⟨g, cap, cur, e1, hB, hgg, hle, _⟩
  · simp at e2
  · injection e1 with e1 e2 e3
    refine ⟨g, cur, e1, hB, by omega, hgg, ?_⟩
    obtain ⟨ao', cap', e4, _, hx⟩ := hc
    injection e4 with e4 _ _
    obtain ⟨b, off, e5, hat⟩ := hx (by simp)
    rw [← e4, e1] at e5
    injection e5 with e5
    injection e5 with e5 e6 _
    subst e5 e6
    intro j x hx
    have := hat j x hx
    rwa [Nat.zero_add] at this

theorem tw_fin {w W : World} {nm : ByteArray} {ar : Int} {S L : Value} {ys zs : List Ins} {g : Nat} {cur : Array Value} (h : Tws w W nm ar S L ys) (hg : w.heap.size + 1 + 1 ≤ g) (hb : W.heap[g]? = some (.cells cur 53 (0, 0))) (hc : ∀ (j : Nat) (x : Ins), zs[j]? = some x → InsAt W g (j * 8) x) (v : Value) :
    ((((W.setCell ⟨w.heap.size, 2, none⟩ v).setCell ⟨w.heap.size + 1, 0, none⟩ (.string nm)).setCell ⟨w.heap.size + 1, 1, none⟩ (.int .i64 ar)).setCell ⟨w.heap.size + 1, 2, none⟩ v).heap[w.heap.size + 1]? = some (.cells #[.string nm, .int .i64 ar, v] 27 (0, 0)) ∧ ((((W.setCell ⟨w.heap.size, 2, none⟩ v).setCell ⟨w.heap.size + 1, 0, none⟩ (.string nm)).setCell ⟨w.heap.size + 1, 1, none⟩ (.int .i64 ar)).setCell ⟨w.heap.size + 1, 2, none⟩ v).heap[g]? = some (.cells cur 53 (0, 0)) ∧ (∀ (j : Nat) (x : Ins), zs[j]? = some x → InsAt ((((W.setCell ⟨w.heap.size, 2, none⟩ v).setCell ⟨w.heap.size + 1, 0, none⟩ (.string nm)).setCell ⟨w.heap.size + 1, 1, none⟩ (.int .i64 ar)).setCell ⟨w.heap.size + 1, 2, none⟩ v) g (j * 8) x) ∧ Below w.heap.size w ((((W.setCell ⟨w.heap.size, 2, none⟩ v).setCell ⟨w.heap.size + 1, 0, none⟩ (.string nm)).setCell ⟨w.heap.size + 1, 1, none⟩ (.int .i64 ar)).setCell ⟨w.heap.size + 1, 2, none⟩ v) := by
  have e0 : ∀ k, k ≠ w.heap.size → (W.setCell ⟨w.heap.size, 2, none⟩ v).heap[k]? = W.heap[k]? := fun k hk => Below.heap_setCell _ _ _ _ hk
  have b1 := (e0 (w.heap.size + 1) (by omega)).trans h.r1
  have hB := h.hb.setCell (p := ⟨w.heap.size, 2, none⟩) (Nat.le_refl _) v
  have bg := e0 g (by omega)
  generalize W.setCell ⟨w.heap.size, 2, none⟩ v = V at b1 hB bg
  have e1 : ∀ k, k ≠ w.heap.size + 1 → (((V.setCell ⟨w.heap.size + 1, 0, none⟩ (.string nm)).setCell ⟨w.heap.size + 1, 1, none⟩ (.int .i64 ar)).setCell ⟨w.heap.size + 1, 2, none⟩ v).heap[k]? = V.heap[k]? :=
    fun k hk => (Below.heap_setCell _ _ _ _ hk).trans ((Below.heap_setCell _ _ _ _ hk).trans (Below.heap_setCell _ _ _ _ hk))
  have eg := (e1 g (by omega)).trans bg
  exact ⟨set3 b1 _ _ _, eg.trans hb, fun j x hx => (hc j x hx).same eg, Below.set3 hB (by omega) _ _ _⟩

/-- What twin leaves. -/
def TwPost (nm : ByteArray) (ar : Int) (xs : List Ins) (w : World) (e : Ending) (w' : World) : Prop :=
  ∃ g cap cur, e = .returned (.agg #[.string nm, .int .i64 ar, .slice (some ⟨g, 0, none⟩) xs.length cap]) ∧ xs.length + 9 ≤ cap ∧ w.heap.size ≤ g ∧ w'.heap[g]? = some (.cells cur 53 (0, 0)) ∧
    (∀ (j : Nat) (x : Ins), (xs ++ (List.range 9).map (fun i : Nat => markI (i : Int)))[j]? = some x → InsAt w' g (j * 8) x) ∧ Below w.heap.size w w'

end Go.Proofs.YtdnlfacfleemeaaGreat

namespace Go.Proofs.YtdnlfacfleemeaaGreat
open Go.RowKit Go.Lib

theorem fldV_octk (f : Fk) (v : Int) (h0 : 0 ≤ v) (h1 : v < 256) : Oct (fldV f v) := by
  have hr : Oct (rowF 10 v) := oct_row 10 v h0 (by omega)
  have hb : Oct [v] := fun y hy => by simp at hy; omega
  cases f
  · exact hb
  · exact hb
  · exact hb
  · exact hr
  · exact hr
  · exact hr
  · exact hr

theorem oct_appk {a b : List Int} (h1 : Oct a) (h2 : Oct b) : Oct (a ++ b) := fun y hy => (List.mem_append.1 hy).elim (h1 y) (h2 y)

theorem insBx_octk (x : Ins) (hop : 1 ≤ x.op ∧ x.op ≤ 16) (hf : ∀ f ∈ opF (opN x.op), 0 ≤ f.get x ∧ f.get x < 256) (hc : chk x.k x.i x.t = 0) (hi : InsOk x) : Oct (insBx x) := by
  rw [insBx_eq]
  refine oct_appk (fun y hy => by simp at hy; omega) (oct_appk ?_ ?_)
  · intro y hy
    obtain ⟨f, hf1, hf2⟩ := List.mem_flatMap.1 hy
    exact fldV_octk f _ (hf f hf1).1 (hf f hf1).2 y hf2
  · split
    · have hl := encB_len x.k x.i x.t hc hi.1 hi.2
      exact oct_appk (oct_row 10 _ (by omega) (by have := hl.1; omega)) hl.2
    · exact fun y hy => by simp at hy

theorem procB_octk (nm : ByteArray) (ar : Int) (xs : List Ins) (hE : (procChk nm ar xs).2 = 0) (hi : ∀ x ∈ xs, InsOk x) : Oct (procB nm ar xs) := by
  have g := good_of hE
  have h1 := g.a0
  have h2 := g.a1
  have h3 := g.len
  have h4 := g.size
  have h5 := strBs_len nm
  unfold procB
  refine oct_appk (oct_appk (oct_appk (oct_appk (oct_row 10 _ (by omega) (by omega)) (oct_str nm)) (oct_row 10 _ h1 (by omega))) (oct_row 10 _ (by omega) (by omega))) ?_
  intro y hy
  obtain ⟨x, hx1, hx2⟩ := List.mem_flatMap.1 hy
  obtain ⟨j, hj⟩ := List.getElem?_of_mem hx1
  obtain ⟨q1, q2, q3⟩ := g.at hj
  exact insBx_octk x q1 q2 q3 (hi x hx1) y hx2

theorem procB_len (nm : ByteArray) (ar : Int) (xs : List Ins) (hE : (procChk nm ar xs).2 = 0) (hi : ∀ x ∈ xs, InsOk x) : (procB nm ar xs).length ≤ 100000000 := by
  have g := good_of hE
  have h4 := g.size
  have h5 := strBs_len nm
  have h3 := g.len
  have r1 := rowF_le 10 ((strBs nm).length : Nat)
  have r2 := rowF_le 10 ar
  have r3 := rowF_le 10 (xs.length : Int)
  have hc := code_len xs (fun x hx => by
    obtain ⟨j, hj⟩ := List.getElem?_of_mem hx
    exact insBx_len x (g.at hj).2.2 (hi x hx))
  have : 1002000 * xs.length ≤ 1002000 * 64 := Nat.mul_le_mul_left _ h3
  unfold procB
  simp only [List.length_append]
  omega

/-- The law's two first blocks: the procedure, the instruction. -/
structure Bst (w W : World) (nm : ByteArray) (ar : Int) (S : Value) (x : Ins) : Prop where
  r0 : W.heap[w.heap.size]? = some (po nm ar S)
  r1 : W.heap[w.heap.size + 1]? = some (io x.op x.a x.b x.c x.n x.k x.i x.t)
  hb : Below w.heap.size w W

theorem Bst.below {w W W' : World} {nm : ByteArray} {ar : Int} {S : Value} {x : Ins} (h : Bst w W nm ar S x) (hb : Below W.heap.size W W') : Bst w W' nm ar S x :=
  ⟨blk_of hb h.r0 (lt_of h.r0), blk_of hb h.r1 (lt_of h.r1), below_on h.hb hb⟩

theorem bst_start (w : World) (nm : ByteArray) (ar : Int) (S : Value) (x : Ins) : Bst w ((w.alloc (po nm ar S)).alloc (io x.op x.a x.b x.c x.n x.k x.i x.t)) nm ar S x := ⟨two1 w _ _, two2 w _ _, below2 w _ _⟩

theorem dst_code {W : World} {cb : Nat} {xs : List Ins} (hc : ∀ (j : Nat) (x : Ins), xs[j]? = some x → InsAt W cb (j * 8) x) : CodeAt W (.slice (some ⟨cb, 0, none⟩) xs.length xs.length) xs :=
  ⟨_, _, rfl, Nat.le_refl _, fun _ => ⟨cb, 0, rfl, fun j x hx => by rw [Nat.zero_add]; exact hc j x hx⟩⟩

/-- An instruction stored. -/
def put8 (W : World) (g o : Nat) (x : Ins) : World := ((((((((W.setCell ⟨g, o, none⟩ (.int .i64 x.op)).setCell ⟨g, o + 1, none⟩ (.int .i64 x.a)).setCell ⟨g, o + 2, none⟩ (.int .i64 x.b)).setCell ⟨g, o + 3, none⟩ (.int .i64 x.c)).setCell ⟨g, o + 4, none⟩ (.int .i64 x.n)).setCell ⟨g, o + 5, none⟩ (.int .i64 x.k)).setCell ⟨g, o + 6, none⟩ (.int .i64 x.i)).setCell ⟨g, o + 7, none⟩ (.string x.t))

theorem put8_block (W : World) (g o : Nat) (x : Ins) (k : Nat) (hk : k ≠ g) : (put8 W g o x).heap[k]? = W.heap[k]? := by
  unfold put8
  repeat rw [Below.heap_setCell _ _ _ _ hk]

theorem put8_kept (W : World) (g o : Nat) (x : Ins) : Kept (fun k => k = g) W (put8 W g o x) := by
  unfold put8
  exact ((((((((Kept.refl (fun k => k = g) W).setCell (p := ⟨g, o, none⟩) (fun _ => rfl) _).setCell (p := ⟨g, o + 1, none⟩) (fun _ => rfl) _).setCell (p := ⟨g, o + 2, none⟩) (fun _ => rfl) _).setCell (p := ⟨g, o + 3, none⟩) (fun _ => rfl) _).setCell (p := ⟨g, o + 4, none⟩) (fun _ => rfl) _).setCell (p := ⟨g, o + 5, none⟩) (fun _ => rfl) _).setCell (p := ⟨g, o + 6, none⟩) (fun _ => rfl) _).setCell (p := ⟨g, o + 7, none⟩) (fun _ => rfl) _

theorem put8_out (W : World) (g o : Nat) (x : Ins) (q : Nat) (hq : q < o ∨ o + 8 ≤ q) : (put8 W g o x).cell? ⟨g, q, none⟩ = W.cell? ⟨g, q, none⟩ := by
  unfold put8
  rw [cs_other (adr_ne (by omega)), cs_other (adr_ne (by omega)), cs_other (adr_ne (by omega)), cs_other (adr_ne (by omega)), cs_other (adr_ne (by omega)), cs_other (adr_ne (by omega)), cs_other (adr_ne (by omega)), cs_other (adr_ne (by omega))]

theorem put8_in (W : World) (g o : Nat) (x y : Ins) (h : InsAt W g o y) : InsAt (put8 W g o x) g o x := by
  have h1 := h.setOp x.op
  have h2 := h1.set .a x.a
  have h3 := h2.set .b x.b
  have h4 := h3.set .c x.c
  have h5 := h4.set .arg x.n
  exact h5.setV x.k x.i x.t

theorem put8_code {W : World} {g cap cN : Nat} {xs : List Ins} {x : Ins} (hcap : xs.length ≤ cap) (hc : ∀ (j : Nat) (y : Ins), xs[j]? = some y → InsAt W g (j * 8) y) (hlt : cN < xs.length) :
    CodeAt (put8 W g (cN * 8) x) (.slice (some ⟨g, 0, none⟩) xs.length cap) (xs.set cN x) := by
  refine ⟨_, _, by rw [List.length_set], by rw [List.length_set]; exact hcap, fun _ => ⟨g, 0, rfl, fun j y hy => ?_⟩⟩
  rw [Nat.zero_add]
  by_cases hj : j = cN
  · subst hj
    rw [List.getElem?_set_self hlt] at hy
    have hy := Option.some.inj hy
    subst hy
    exact put8_in W g (j * 8) x _ (hc j _ (List.getElem?_eq_getElem hlt))
  · rw [List.getElem?_set_ne (Ne.symm hj)] at hy
    exact (hc j y hy).moved (fun m hm => put8_out W g (cN * 8) x _ (by omega))

set_option maxRecDepth 100000 in
theorem ins_eql (x y : Ins) (w : World) : (binOp BinOp.eql 53 x.val y.val).run Tryz.prog w = .ok (.bool (decide (x = y))) w := by
  have h := ins_neq x y w
  rw [show x.val = .agg #[.int .i64 x.op, .int .i64 x.a, .int .i64 x.b, .int .i64 x.c, .int .i64 x.n, .int .i64 x.k, .int .i64 x.i, .string x.t] from rfl, show y.val = .agg #[.int .i64 y.op, .int .i64 y.a, .int .i64 y.b, .int .i64 y.c, .int .i64 y.n, .int .i64 y.k, .int .i64 y.i, .string y.t] from rfl] at h ⊢
  rw [run_neq_struct] at h
  rw [run_eql_struct]
  cases hr : (Op.equalIn 10000 53 (.agg #[.int .i64 x.op, .int .i64 x.a, .int .i64 x.b, .int .i64 x.c, .int .i64 x.n, .int .i64 x.k, .int .i64 x.i, .string x.t]) (.agg #[.int .i64 y.op, .int .i64 y.a, .int .i64 y.b, .int .i64 y.c, .int .i64 y.n, .int .i64 y.k, .int .i64 y.i, .string y.t])).run Tryz.prog w with
  | ok b w2 =>
    rw [hr] at h
    simp only [Result.andThen_ok] at h ⊢
    injection h with h1 h2
    injection h1 with h1
    rw [h2]
    congr 2
    cases b <;> cases hd : decide (x = y) <;> simp_all
  | _ => rw [hr] at h; simp [Result.andThen] at h

/-- The same bytes, just if it is the same instruction. -/
theorem set_same (nm : ByteArray) (ar : Int) (xs : List Ins) (x y : Ins) (cN : Nat) (hE : (procChk nm ar xs).2 = 0) (hi : ∀ x ∈ xs, InsOk x) (hx : InsOk x) (hy : xs[cN]? = some y) (hE2 : (procChk nm ar (xs.set cN x)).2 = 0) :
    decide (procB nm ar xs = procB nm ar (xs.set cN x)) = decide (x = y) := by
  have hi2 : ∀ z ∈ xs.set cN x, InsOk z := fun z hz => (List.mem_or_eq_of_mem_set hz).elim (hi z) (fun e => e ▸ hx)
  have hlt : cN < xs.length := (List.getElem?_eq_some_iff.1 hy).1
  by_cases hxy : x = y
  · subst hxy
    have e : xs.set cN x = xs := by
      apply List.ext_getElem?
      intro j
      by_cases hj : cN = j
      · subst hj; rw [List.getElem?_set_self hlt, hy]
      · rw [List.getElem?_set_ne hj]
    rw [e]
    simp
  · have hne : procB nm ar xs ≠ procB nm ar (xs.set cN x) := by
      intro e
      have d1 := dec_procB nm ar xs hE hi
      have d2 := dec_procB nm ar (xs.set cN x) hE2 hi2
      rw [e, d2] at d1
      injection d1 with d1
      injection d1 with _ d1
      injection d1 with _ d1
      have := congrArg (fun l => l[cN]?) d1
      simp only [List.getElem?_set_self hlt, hy] at this
      exact hxy (Option.some.inj this)
    rw [decide_eq_false hne, decide_eq_false hxy]

theorem tw_at {w W : World} {g g2 : Nat} {cur : Array Value} {xs zs : List Ins} {bs : List Int} (hg : w.heap.size ≤ g) (_hb : W.heap[g]? = some (.cells cur 53 (0, 0))) (hc : ∀ (j : Nat) (x : Ins), (xs ++ zs)[j]? = some x → InsAt W g (j * 8) x) (_hB : Below w.heap.size w W) (ho : Own w g2 bs) :
    (∀ (j : Nat) (x : Ins), xs[j]? = some x → InsAt W g (j * 8) x) ∧ g2 ≠ g := by
  refine ⟨fun j x hx => hc j x ?_, by have := lt_of ho; omega⟩
  rw [List.getElem?_append_left (List.getElem?_eq_some_iff.1 hx).1]
  exact hx

/-- Behind the store. -/
structure Bk2 (w W : World) (nm : ByteArray) (ar : Int) (S : Value) (x : Ins) (g2 : Nat) (bs : List Int) (S2 : Value) (ys : List Ins) (r : Nat) : Prop where
  st : Bst w W nm ar S x
  ow : Own W g2 bs
  co : CodeAt W S2 ys
  t : W.heap[r]? = some (po nm ar S2)

theorem bk_world {w w4 w5 : World} {nm : ByteArray} {ar : Int} {S : Value} {x : Ins} {g g2 c5 cN : Nat} {bs : List Int} {xs : List Ins} {cur : Array Value}
    (h : Bst w w5 nm ar S x ∧ Own w5 g2 bs ∧ ((∀ (j : Nat) (y : Ins), xs[j]? = some y → InsAt w5 g (j * 8) y) ∧ g2 ≠ g) ∧ xs.length + 9 ≤ c5 ∧ w5.heap[g]? = some (.cells cur 53 (0, 0)) ∧ w4.heap.size ≤ g ∧ w.heap.size + 1 < w4.heap.size) (hlt : cN < xs.length) :
    Bk2 w ((put8 w5 g (cN * 8) x).alloc (po nm ar (.slice (some ⟨g, 0, none⟩) xs.length c5))) nm ar S x g2 bs (.slice (some ⟨g, 0, none⟩) xs.length c5) (xs.set cN x) w5.heap.size := by
  obtain ⟨hs, ho, ⟨hc, hne⟩, hc5, hb, hg, hl⟩ := h
  have hz : (put8 w5 g (cN * 8) x).heap.size = w5.heap.size := by simp [put8, World.setCell]
  have k := put8_kept w5 g (cN * 8) x
  have b0 := (k.block _ (lt_of hs.r0) (by omega)).trans hs.r0
  have b1 := (k.block _ (lt_of hs.r1) (by omega)).trans hs.r1
  have b2 := (k.block _ (lt_of ho) hne).trans ho
  have hB : Below w.heap.size w (put8 w5 g (cN * 8) x) := hs.hb.trans (k.below hs.hb.size (fun q hq e => by omega))
  have hco := put8_code (W := w5) (x := x) (cap := c5) (by omega) hc hlt
  have hn := heap_alloc_new (put8 w5 g (cN * 8) x) (po nm ar (.slice (some ⟨g, 0, none⟩) xs.length c5))
  rw [hz] at hn
  have hbb := below1 (put8 w5 g (cN * 8) x) (po nm ar (.slice (some ⟨g, 0, none⟩) xs.length c5))
  exact ⟨⟨blk_of hbb b0 (lt_of b0), blk_of hbb b1 (lt_of b1), below_on hB hbb⟩, blk_of hbb b2 (lt_of b2), hco.below hbb, hn⟩

theorem below_drewk {w0 w w1 : World} (h0 : Below w0.heap.size w0 w) (h : Below w.drew.heap.size w.drew w1) : Below w0.heap.size w0 w1 := by
  have h' : Below w.heap.size w w1 := ⟨h.os, h.tape, h.output, h.size, h.block⟩
  exact below_on h0 h'

end Go.Proofs.YtdnlfacfleemeaaGreat

namespace Go.Proofs.YtdnlfacfleemeaaGreat
open Go.RowKit Go.Lib

theorem wb0 (v : Value) (bs : List Int) (y : Int) (w : World) (h : Sn w v bs) (hl : bs.length ≤ 1000000000) :
    Calls Tryz.prog 49 #[.agg #[v, .int .i64 0], .int .u8 y] w (RWPost w v (bs ++ [y]) 0) := by
  have := rbyteW_any v (bs, 0) y w h hl
  simpa [laidZ] using this

theorem wn0 (v : Value) (bs : List Int) (y : Int) (w : World) (h : Sn w v bs) (hl : bs.length ≤ 1000000000) (h0 : 0 ≤ y) (h1 : y < 9223372036854775808) :
    Calls Tryz.prog 24 #[.agg #[v, .int .i64 0], .int .i64 y] w (RWPost w v (bs ++ rowF 10 y) 0) := by
  have := rnumW_any v (bs, 0) y w h (by simp; omega) h1
  have e : rnumZ (bs, 0) y = (bs ++ rowF 10 y, 0) := by rw [rnumZ, if_neg (by omega)]; simp [laidZ]
  rw [e] at this
  exact this

theorem wt0 (v : Value) (bs : List Int) (s : ByteArray) (w : World) (h : Sn w v bs) (hl : bs.length ≤ 1000000000) (hs : s.size ≤ 1000000000) :
    Calls Tryz.prog 51 #[.agg #[v, .int .i64 0], .string s] w (RWPost w v (bs ++ (rowF 10 (strBs s).length ++ strBs s)) 0) := by
  have := rtextW_any v (bs, 0) s w h hl hs
  have e : rtextZ (bs, 0) (strBs s) = (bs ++ (rowF 10 (strBs s).length ++ strBs s), 0) := by rw [rtextZ, rnumZ, if_neg (by omega)]; simp [laidZ]
  rw [e] at this
  exact this

/-- While the document encodes: the procedure's block, the Writer's, its bytes. -/
structure Ren (w W : World) (nm : ByteArray) (ar : Int) (S : Value) (r : Nat) (v : Value) (bs : List Int) : Prop where
  r0 : W.heap[w.heap.size]? = some (po nm ar S)
  rw : W.heap[r]? = some (.cells #[v, .int .i64 0] 66 (0, 0))
  sn : Sn W v bs
  own : ∀ k, v.ownBlock = some k → k ≠ r
  lt : w.heap.size < r
  hb : Below w.heap.size w W

theorem Ren.below {w W W' : World} {nm : ByteArray} {ar : Int} {S : Value} {r : Nat} {v : Value} {bs : List Int} (h : Ren w W nm ar S r v bs) (hb : Below W.heap.size W W') : Ren w W' nm ar S r v bs :=
  ⟨blk_of hb h.r0 (lt_of h.r0), blk_of hb h.rw (lt_of h.rw), h.sn.below hb, h.own, h.lt, below_on h.hb hb⟩

theorem set2c {w : World} {r : Nat} {a b x y : Value} {t : TypeId} (h : w.heap[r]? = some (.cells #[a, b] t (0, 0))) : ((w.setCell ⟨r, 0, none⟩ x).setCell ⟨r, 1, none⟩ y).heap[r]? = some (.cells #[x, y] t (0, 0)) := by
  simp [World.setCell, Array.getElem?_modify, h]

/-- Behind a call on the Writer, its answer stored. -/
theorem Ren.put {w W w2 : World} {nm : ByteArray} {ar : Int} {S : Value} {r : Nat} {v v2 : Value} {bs bs2 : List Int} (h : Ren w W nm ar S r v bs) (hs : Sn w2 v2 bs2) (hb : Below W.heap.size W w2)
    (hn : v2 = v ∨ ∀ k, v2.ownBlock = some k → W.heap.size ≤ k ∧ k < w2.heap.size) : Ren w ((w2.setCell ⟨r, 0, none⟩ v2).setCell ⟨r, 1, none⟩ (.int .i64 0)) nm ar S r v2 bs2 := by
  have h2 := h.below hb
  have hown : ∀ k, v2.ownBlock = some k → k ≠ r := by
    intro k hk
    rcases hn with rfl | hn
    · exact h.own k hk
    · have := hn k hk; have := lt_of h.rw; omega
  have k2 := ((Kept.refl (fun k => k = r) w2).setCell (p := ⟨r, 0, none⟩) (fun _ => rfl) v2).setCell (p := ⟨r, 1, none⟩) (fun _ => rfl) (.int .i64 0)
  have hlt := h.lt
  exact ⟨(k2.block _ (lt_of h2.r0) (by omega)).trans h2.r0, set2c h2.rw, hs.kept k2 (fun k hk e => hown k hk e), hown, h.lt, below_set2 h2.hb (by omega) _ _⟩

/-- A block that is neither the Writer's. -/
theorem put_other {W w2 : World} {r q : Nat} {o : Obj} (h : W.heap[q]? = some o) (hb : Below W.heap.size W w2) (hq : q ≠ r) (v2 : Value) : ((w2.setCell ⟨r, 0, none⟩ v2).setCell ⟨r, 1, none⟩ (.int .i64 0)).heap[q]? = some o :=
  (Below.heap_setCell _ _ _ _ hq).trans ((Below.heap_setCell _ _ _ _ hq).trans (blk_of hb h (lt_of h)))

/-- The bytes of a field by its letter. -/
def ltB (x : Ins) (c : Int) : List Int :=
  if c = 65 then [x.a] else if c = 66 then [x.b] else if c = 67 then [x.c] else if c = 97 then rowF 10 x.a else if c = 78 then rowF 10 x.n else if c = 86 then valB x else []

theorem ltB_all (x : Ins) (h : 1 ≤ x.op ∧ x.op ≤ 16) : [x.op] ++ (strBs (fdS x.op)).flatMap (ltB x) = insBx x := by
  obtain ⟨o, a, b, c, n, k, i, t⟩ := x
  rcases op_cases o with rfl | rfl | rfl | rfl | rfl | rfl | rfl | rfl | rfl | rfl | rfl | rfl | rfl | rfl | rfl | rfl | h2
  case inr.inr.inr.inr.inr.inr.inr.inr.inr.inr.inr.inr.inr.inr.inr.inr => exact absurd h h2
  all_goals simp [insBx, insB, opN, opF, fldV, Fk.get, fdS, strBs, ltB, valB]

/-- What a good instruction's letters bear. -/
structure Lts (x : Ins) : Prop where
  of : ∀ c ∈ strBs (fdS x.op), c = 65 ∨ c = 66 ∨ c = 67 ∨ c = 97 ∨ c = 78 ∨ c = 86
  a : (65 : Int) ∈ strBs (fdS x.op) ∨ (97 : Int) ∈ strBs (fdS x.op) → 0 ≤ x.a ∧ x.a < 256
  b : (66 : Int) ∈ strBs (fdS x.op) → 0 ≤ x.b ∧ x.b < 256
  c : (67 : Int) ∈ strBs (fdS x.op) → 0 ≤ x.c ∧ x.c < 256
  n : (78 : Int) ∈ strBs (fdS x.op) → 0 ≤ x.n ∧ x.n < 256

theorem lts_of (x : Ins) (h : 1 ≤ x.op ∧ x.op ≤ 16) (hf : ∀ f ∈ opF (opN x.op), 0 ≤ f.get x ∧ f.get x < 256) : Lts x := by
  obtain ⟨o, a, b, c, n, k, i, t⟩ := x
  rcases op_cases o with rfl | rfl | rfl | rfl | rfl | rfl | rfl | rfl | rfl | rfl | rfl | rfl | rfl | rfl | rfl | rfl | h2
  case inr.inr.inr.inr.inr.inr.inr.inr.inr.inr.inr.inr.inr.inr.inr.inr => exact absurd h h2
  all_goals
    simp [opN, opF, Fk.get] at hf
    constructor <;> simp [fdS, strBs, hf]

end Go.Proofs.YtdnlfacfleemeaaGreat

namespace Go.Proofs.YtdnlfacfleemeaaGreat
open Go.RowKit Go.Lib

/-- A field read, by its letter. -/
def tkL (bs : List Int) (c : Int) (x : Ins) (a : Nat) : Except Int (Ins × Nat) :=
  if c = 65 then if (takeZ 0 1 bs a 0).2.2 = 0 then .ok ({ x with a := (takeZ 0 1 bs a 0).1.1 }, (takeZ 0 1 bs a 0).2.1) else .error (takeZ 0 1 bs a 0).2.2
  else if c = 66 then if (takeZ 0 1 bs a 0).2.2 = 0 then .ok ({ x with b := (takeZ 0 1 bs a 0).1.1 }, (takeZ 0 1 bs a 0).2.1) else .error (takeZ 0 1 bs a 0).2.2
  else if c = 67 then if (takeZ 0 1 bs a 0).2.2 = 0 then .ok ({ x with c := (takeZ 0 1 bs a 0).1.1 }, (takeZ 0 1 bs a 0).2.1) else .error (takeZ 0 1 bs a 0).2.2
  else if c = 97 then if (takeZ 1 0 bs a 0).2.2 = 0 then .ok ({ x with a := (takeZ 1 0 bs a 0).1.1 }, (takeZ 1 0 bs a 0).2.1) else .error (takeZ 1 0 bs a 0).2.2
  else if c = 78 then if (takeZ 1 0 bs a 0).2.2 = 0 then .ok ({ x with n := (takeZ 1 0 bs a 0).1.1 }, (takeZ 1 0 bs a 0).2.1) else .error (takeZ 1 0 bs a 0).2.2
  else if c = 86 then match tkVal bs bs.length a with
    | .error E => .error E
    | .ok (d, a3) => .ok ({ x with k := d.1, i := d.2.1, t := mkStr d.2.2 }, a3)
  else .ok (x, a)

/-- All of an operation's letters. -/
def tkLs (bs : List Int) : List Int → Ins → Nat → Except Int (Ins × Nat)
  | [], x, a => .ok (x, a)
  | c :: cs, x, a => match tkL bs c x a with
    | .error E => .error E
    | .ok (y, a2) => tkLs bs cs y a2

def Fk.lt : Fk → Int
  | .a => 65
  | .b => 66
  | .c => 67
  | .skp => 97
  | _ => 78

theorem tkL_fk (bs : List Int) (f : Fk) (x : Ins) (a : Nat) : tkL bs f.lt x a = if (tkf f bs a).2.2 = 0 then .ok (f.set (tkf f bs a).1.1 x, (tkf f bs a).2.1) else .error (tkf f bs a).2.2 := by
  cases f <;> rfl

theorem tkLs_fs (bs : List Int) : ∀ (fs : List Fk) (x : Ins) (a : Nat), tkLs bs (fs.map Fk.lt) x a = tkFs bs fs x a := by
  intro fs
  induction fs with
  | nil => intro x a; rfl
  | cons f fs ih =>
    intro x a
    rw [List.map_cons, tkLs, tkL_fk, tkFs]
    split
    · rename_i h; split at h
      · cases h
      · rename_i h0; rw [if_neg h0]; exact h.symm ▸ rfl
    · rename_i h; split at h
      · rename_i h0
        rw [if_pos h0]
        injection h with h
        injection h with h1 h2
        rw [← h1, ← h2]
        exact ih _ _
      · cases h

theorem tkLs_app (bs : List Int) (l2 : List Int) : ∀ (l : List Int) (x : Ins) (a : Nat), tkLs bs (l ++ l2) x a = match tkLs bs l x a with
    | .error E => .error E
    | .ok (y, a2) => tkLs bs l2 y a2 := by
  intro l
  induction l with
  | nil => intro x a; rfl
  | cons c l ih =>
    intro x a
    rw [List.cons_append, tkLs, tkLs]
    cases tkL bs c x a with
    | error E => rfl
    | ok r => obtain ⟨y, a2⟩ := r; exact ih y a2

theorem fdS_map (op : Int) (h : 1 ≤ op ∧ op ≤ 16) : strBs (fdS op) = (opF (opN op)).map Fk.lt ++ (if (opN op == 1) = true then [86] else []) := by
  rcases op_cases op with rfl | rfl | rfl | rfl | rfl | rfl | rfl | rfl | rfl | rfl | rfl | rfl | rfl | rfl | rfl | rfl | h2
  case inr.inr.inr.inr.inr.inr.inr.inr.inr.inr.inr.inr.inr.inr.inr.inr => exact absurd h h2
  all_goals rfl

theorem tkLs_eq (bs : List Int) (op : Int) (a : Nat) (h : 1 ≤ op ∧ op ≤ 16) : tkLs bs (strBs (fdS op)) (zIns op) a = tkAfter bs bs.length (opN op == 1) (tkFs bs (opF (opN op)) (zIns op) a) := by
  rw [fdS_map op h, tkLs_app, tkLs_fs]
  cases tkFs bs (opF (opN op)) (zIns op) a with
  | error E => rfl
  | ok r =>
    obtain ⟨y, a2⟩ := r
    cases opN op == 1 with
    | false => rfl
    | true =>
      show tkLs bs [86] y a2 = _
      rw [tkLs, tkAfter, if_pos rfl]
      unfold tkL
      simp only [show ¬ (86 : Int) = 65 by decide, show ¬ (86 : Int) = 66 by decide, show ¬ (86 : Int) = 67 by decide, show ¬ (86 : Int) = 97 by decide, show ¬ (86 : Int) = 78 by decide, if_false, if_true]
      cases tkVal bs bs.length a2 with
      | error E => rfl
      | ok d => rfl

/-- What 'taken' leaves. -/
def TLPost (v : Value) (w : World) (r : Except Int (Ins × Nat)) (e : Ending) (w' : World) : Prop :=
  Below w.heap.size w w' ∧ ∃ (y : Ins) (a2 : Nat) (e2 st2 E : Int), e = .returned (.tuple #[.agg #[v, .int .i64 a2, .int .i64 e2, .int .i64 st2], y.val, .int .i64 E]) ∧
    match r with
    | .ok (x', a') => E = 0 ∧ y = x' ∧ a2 = a' ∧ e2 = 0
    | .error E' => E = E' ∧ E' ≠ 0

end Go.Proofs.YtdnlfacfleemeaaGreat
