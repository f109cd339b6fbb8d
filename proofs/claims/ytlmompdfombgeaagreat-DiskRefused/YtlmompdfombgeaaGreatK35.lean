import Derived.Test.YtlmompdfombgeaaGreatK34
import Derived.Deep.RegionHeldLaw
import Derived.Test.YtlmompdfombgeaaGreatK32
import Derived.Test.YtlmompdfombgeaaGreatK33
namespace Go.Proofs.YtlmompdfombgeaaGreat
open Go.RowKit Go.MapKept

/-- A pick in lists of its own. -/
structure Qk where
  done : Int
  g : Nat
  cap : Nat
  lost : List Int
instance : Inhabited Qk := ⟨⟨0, 0, 0, []⟩⟩
def qcs (x : Qk) : List Value := [.int .i64 x.done, .slice (some ⟨x.g, 0, none⟩) x.lost.length x.cap]
def ics (ls : List Int) : List Value := ls.flatMap fun x => [.int .i64 x]
/-- Its list with the marks behind. -/
def Qk.ok (w : World) (B : Nat) (q : Qk) : Prop := w.ownsRow B 3 1 (.slice (some ⟨q.g, 0, none⟩) (q.lost.length + 2) q.cap) (q.lost.length + 2) (ics q.lost ++ [.int .i64 703, .int .i64 704])
/-- The same pick. -/
def Qk.as (q : Qk) (p : Pk) : Prop := q.done = p.done ∧ q.lost = p.lost

theorem Tryz.info91 : (Tryz.prog.info? 91).map (fun i => (i.zero, i.size, i.bytes)) = some (some (.agg #[.int .i64 0, .slice none 0 0]), 2, 32) := by kernel_rfl
theorem Tryz.elem64 : Tryz.prog.underlying 64 = some (.slice (Tryz.prog.elem 64)) := by kernel_rfl
theorem Tryz.elem64Is : Tryz.prog.elem 64 = 3 := by kernel_rfl
theorem Tryz.elem39 : Tryz.prog.underlying 39 = some (.slice (Tryz.prog.elem 39)) := by kernel_rfl
theorem Tryz.elem39Is : Tryz.prog.elem 39 = 91 := by kernel_rfl
theorem size91 (w : World) : (sizeOf (Tryz.prog.elem 39)).run Tryz.prog w = .ok 2 w := by
  obtain ⟨i0, hi, hz0, hz1, hz2⟩ := info_parts Tryz.info91
  rw [Tryz.elem39Is]
  simp [sizeOf, typeInfo, hi, hz1]
theorem size3 (w : World) : (sizeOf (Tryz.prog.elem 64)).run Tryz.prog w = .ok 1 w := by
  obtain ⟨i0, hi, hz0, hz1, hz2⟩ := info_parts Tryz.info3
  rw [Tryz.elem64Is]
  simp [sizeOf, typeInfo, hi, hz1]
theorem slice39 (a : Addr) (n hi cap : Nat) (h : hi ≤ cap) (wx : World) : (Instr.slice 39 (.slice (some a) n cap) none (some (.int .i64 hi)) none).run Tryz.prog wx = .ok (.slice (some a) hi cap) wx := by
  rw [run_slice_h wx 39 (some a) n cap Tryz.elem39 .i64 hi (by omega) (by omega), size91]
  simp [sliced, Addr.add]
theorem slice64 (a : Addr) (n hi cap : Nat) (h : hi ≤ cap) (wx : World) : (Instr.slice 64 (.slice (some a) n cap) none (some (.int .i64 hi)) none).run Tryz.prog wx = .ok (.slice (some a) hi cap) wx := by
  rw [run_slice_h wx 64 (some a) n cap Tryz.elem64 .i64 hi (by omega) (by omega), size3]
  simp [sliced, Addr.add]

theorem hp_below' {B k : Nat} {w w' : World} {o : Obj} (h : w.heap[k]? = some o) (hb : Below B w w') (hk : k < B) : w'.heap[k]? = some o := (hb.block k hk).trans h

/-- l holds the first k picks. -/
structure Pkd (B : Nat) (W wr : World) (v : Value) (ps : List Pk) (k : Nat) (qs : List Qk) : Prop where
  row : wr.ownsRow B 91 2 v k (qs.flatMap qcs)
  len : qs.length = k
  same : ∀ (i : Nat) (q : Qk) (p : Pk), qs[i]? = some q → ps[i]? = some p → q.as p
  ok : ∀ q ∈ qs, q.ok wr B
  ne : ∀ q ∈ qs, v.ownBlock ≠ some q.g
  bel : Below B W wr

/-- The picks as they were made. -/
structure Qks (w : World) (B g cap : Nat) (ps : List Pk) (qs : List Qk) : Prop where
  row : w.ownsRow B 91 2 (.slice (some ⟨g, 0, none⟩) (ps.length + 1) cap) (ps.length + 1) (qs.flatMap qcs ++ [.int .i64 705, .slice none 0 0])
  len : qs.length = ps.length
  same : ∀ (i : Nat) (q : Qk) (p : Pk), qs[i]? = some q → ps[i]? = some p → q.as p
  ok : ∀ q ∈ qs, q.ok w B

set_option maxRecDepth 100000 in
set_option maxHeartbeats 3200000 in
theorem picked_any (pn : Int) (fv : Value) (ps : List Pk) (w : World) (h : Pks w fv ps) (hl : ps.length ≤ 300) (hl2 : ∀ p ∈ ps, p.lost.length ≤ 300) :
    Calls Tryz.prog 64 #[.agg #[.int .i64 pn, fv]] w fun x w' => ∃ g cap qs, x = .returned (.agg #[.int .i64 pn, .slice (some ⟨g, 0, none⟩) ps.length cap]) ∧ Qks w' w.heap.size g cap ps qs ∧ Below w.heap.size w w' := by
  obtain ⟨ao, cp, rfl, hc1, hc2⟩ := h.1.shape
  have HP := hid h
  clear h
  obtain ⟨i91, hi91, hy0, hy1, hy2⟩ := info_parts Tryz.info91
  obtain ⟨i3, hi3, hx0, hx1, hx2⟩ := info_parts Tryz.info3
  have hb0 : Below w.heap.size w ((w.alloc (.cells #[.int .i64 pn, .slice ao ps.length cp] 41)).alloc (.cells #[.int .i64 0, .slice none 0 0] 41)) := ((Below.refl _ _).alloc (Nat.le_refl _) _).alloc (by simp) _
  have hp0 : ((w.alloc (.cells #[.int .i64 pn, .slice ao ps.length cp] 41)).alloc (.cells #[.int .i64 0, .slice none 0 0] 41)).heap[w.heap.size]? = some (.cells #[.int .i64 pn, .slice ao ps.length cp] 41 (0, 0)) := hp_alloc (hp_new _ _) _
  have hr0 : ((w.alloc (.cells #[.int .i64 pn, .slice ao ps.length cp] 41)).alloc (.cells #[.int .i64 0, .slice none 0 0] 41)).heap[w.heap.size + 1]? = some (.cells #[.int .i64 0, .slice none 0 0] 41 (0, 0)) := by
    have := hp_new (w.alloc (.cells #[.int .i64 pn, .slice ao ps.length cp] 41)) (.cells #[.int .i64 0, .slice none 0 0] 41)
    simpa using this
  have hs0 : ((w.alloc (.cells #[.int .i64 pn, .slice ao ps.length cp] 41)).alloc (.cells #[.int .i64 0, .slice none 0 0] 41)).heap.size = w.heap.size + 2 := by simp
  have H0 := hid (And.intro hb0 (And.intro hp0 (And.intro hr0 hs0)))
  clear hb0 hp0 hr0 hs0
  have HL2 := hid hl2
  clear hl2
  go_enter Tryz.func64, Tryz.ntmps64
  go_wp2
  go_loopw [3, 4] (fun l i wr => ∃ (k : Nat) (qs : List Qk) (v : Value), k ≤ ps.length ∧ i = .int .i64 k ∧ l = v ∧ Hid (Pkd (w.heap.size + 2) ((w.alloc (.cells #[.int .i64 pn, .slice ao ps.length cp] 41)).alloc (.cells #[.int .i64 0, .slice none 0 0] 41)) wr v ps k qs)) (fun _ i _ => ps.length - (intOf i).toNat)
  case atStart => exact ⟨0, [], .slice none 0 0, Nat.zero_le _, by go_num, rfl, hid ⟨owns_nil _ _ _ _, rfl, by simp, by simp, by simp, Below.refl _ _⟩⟩
  case round =>
    obtain ⟨k, qs, v, hk, rfl, rfl, HR⟩ := hrel
    obtain ⟨hrow, hlen, hsame, hok, hne, hbel⟩ := HR.out
    obtain ⟨hb0, hp0, hr0, hs0⟩ := H0.out
    have hzr : w.heap.size + 2 ≤ wr.heap.size := by have := hbel.size; omega
    have hbw : Below w.heap.size w wr := hb0.trans (hbel.mono (by omega))
    have hpr := hp_below' hp0 hbel (by omega)
    have hrr := hp_below' hr0 hbel (by omega)
    obtain ⟨p0, p1⟩ := cells2 hpr
    by_cases hlt : k < ps.length
    · obtain ⟨b, off, cap', e, -, -, hcell⟩ := Rf.elem (f := pcs) (fun _ => rfl) (by omega) HP.out.1 k hlt
      injection e with e1 e2 e3
      subst e1 e3
      clear e2
      obtain ⟨x, hxe⟩ : ∃ x, x = ps[k] := ⟨_, rfl⟩
      have hmem := List.getElem_mem hlt
      rw [← hxe] at hcell hmem
      have hpok := HP.out.2 x hmem
      have hlost := HL2.out x hmem
      obtain ⟨dn, lv, lost⟩ := x
      obtain ⟨-, hln, -, -⟩ := hpok
      obtain ⟨a5, q5, e5, d9, d10⟩ := hln.shape
      dsimp only at e5 hlost d9 d10
      subst e5
      have y0 : w.cell? ⟨b, off + k * 2, none⟩ = some (.int .i64 dn) := hcell 0 _ rfl
      have y1 : w.cell? ⟨b, off + k * 2 + 1, none⟩ = some (.slice a5 lost.length q5) := hcell 1 _ rfl
      have x0 := (hbw.cell (World.block_lt_of_cell? _ _ y0)).trans y0
      have x1 := (hbw.cell (World.block_lt_of_cell? _ _ y1)).trans y1
      have hlnr : Ln wr (.slice a5 lost.length q5) lost := hln.below hbw
      have i2 : (k : Int) < (ps.length : Int) := by omega
      have HX := hid (And.intro hxe (And.intro hpr (And.intro hrr (And.intro hbw hlnr))))
      have hbl : b < w.heap.size := World.block_lt_of_cell? _ _ y0
      clear hrow hlen hsame hok hne hbel hb0 hp0 hr0 hs0 hbw hpr hrr hcell hmem hln hlnr y0 y1 hxe
      go_wp2_with (
        at_builtin
        first
        | (refine wpList_append_rf _ rfl _ _ 64 3 _ 1 8 rfl Tryz.underlying64 Tryz.info3 rfl (by omega) (w.heap.size + 2) (.slice none 0 0) 0 [] rfl (owns_nil _ _ _ _) (.slice a5 lost.length q5) lost.length (lost.flatMap fun x => [.int .i64 x]) rfl HX.out.2.2.2.2 (by omega) (by unfold maxLen; omega) hzr ?_
           intro ao1 c1 w1 ho1 hg1 hat1
           have hb1 := (Below.refl wr.heap.size wr).grown hg1.out (Nat.le_refl _) (fun k e => by simp [Value.ownBlock] at e)
           have ho1' := ho1.out
           simp only [Nat.zero_add, List.nil_append] at ho1'
           have hat1' : ∀ k, (Value.slice ao1 lost.length c1).ownBlock = some k → wr.heap.size ≤ k := fun k hk => (by
             have := hat1.out
             simp only [Nat.zero_add] at this
             rw [hk] at this
             rcases this with h | h
             · simp [Value.ownBlock] at h
             · injection h with h; omega)
           have hz1 := hb1.size
           have H1 := hid (And.intro ho1' (And.intro hb1 hat1'))
           clear ho1 hg1 hat1 hb1 ho1' hat1')
        | (refine wpList_append_lies _ rfl _ _ 64 rfl (w.heap.size + 2) 3 i3 _ 1 8 Tryz.underlying64 hi3 hx0 hx1 hx2 rfl (by omega) (.slice ao1 lost.length c1) lost.length (lost.flatMap fun x => [.int .i64 x]) rfl (H1.out.1.alloc _) ⟨w1.heap.size, 0, none⟩ 2 2 [.int .i64 703, .int .i64 704] rfl rfl (World.news_of_block (cs := #[.int .i64 703, .int .i64 704]) (t := 3) (fr := (0, 0)) (heap_alloc_new w1 _)) (by simp [Value.oneCell']) (by omega) (by unfold maxLen; omega) (by omega) (by simp <;> omega) (w1.heap.size + 1) (by simp) ?_
           intro gm cm w2 hown hgrow hat hgl
           have K2 : Kept (fun k => (Value.slice ao1 lost.length c1).ownBlock = some k) w1 w2 := Kept.grown ((Kept.refl _ w1).alloc _) hgrow (fun k _ e => e)
           have hb2 : Below wr.heap.size wr w2 := H1.out.2.1.trans (K2.below H1.out.2.1.size (fun k hk e => (by have := H1.out.2.2 k e; omega)))
           have u0 := (hb2.cell (World.block_lt_of_cell? _ _ x0)).trans x0
           have u1 := (hb2.cell (World.block_lt_of_cell? _ _ x1)).trans x1
           have v1 := (hb2.cell (World.block_lt_of_cell? _ _ p1)).trans p1
           have hz2 := hb2.size
           have hgm : wr.heap.size ≤ gm := (by
             rcases hat with h | h
             · exact H1.out.2.2 _ h
             · omega)
           have sl := slice64 ⟨gm, 0, none⟩ (lost.length + 2) lost.length cm (by have := hown.2; rcases this with ⟨h, _⟩ | ⟨_, _, _, h, _, _, hc, _⟩; cases h; injection h with _ _ h; omega)
           have H2 := hid (And.intro hown (And.intro hb2 (And.intro hgm hgl)))
           clear hown hgrow hat hgl K2 hb2 hgm x0 x1 p0 p1))
      have hv2 : w2.ownsRow (w.heap.size + 2) 91 2 u3 k (qs.flatMap qcs) := ownsRow_kept HR.out.row (Kept.ofBelow H2.out.2.1) (fun _ _ e => e)
      have hlo : ∀ kk, kk < w.heap.size + 2 → ¬ u3.ownBlock = some kk := fun kk hk e => by have := (hv2.lt _ e).1; omega
      have HV := hid (And.intro hv2 hlo)
      clear hv2 hlo
      go_region_held_law (fun w' => w'.cell? ⟨w.heap.size, 1, none⟩ = some (.slice (some ⟨b, off, none⟩) ps.length cp) ∧ w'.cell? ⟨b, off + k * 2, none⟩ = some (.int .i64 dn) ∧ w'.cell? ⟨b, off + k * 2 + 1, none⟩ = some (.slice a5 lost.length q5)) (go_keep)
        ((refine step_append_lies _ (by rfl) _ _ _ (by rfl) (w.heap.size + 2) 91 i91 _ 2 32 Tryz.underlying39 hi91 hy0 hy1 hy2 rfl (by omega) u3 k (qs.flatMap qcs) (by rfl) ((HV.out.1.alloc _).drew)
            ⟨w2.heap.size, 0, none⟩ 1 1 [.int .i64 dn, .slice (some ⟨gm, 0, none⟩) lost.length cm] (by rfl) (by rfl) (World.news_of_block (cs := #[.int .i64 dn, .slice (some ⟨gm, 0, none⟩) lost.length cm]) (t := 91) (fr := (0, 0)) (heap_alloc_new w2 _)) (by simp [Value.oneCell'])
            (by omega) (by unfold maxLen; omega) (by omega) (by simp <;> omega) (w2.heap.size + 1) (by simp) ?_; intro gg cap w3 hown3 hgrow3 hat3 hlt3; have s1 := (hgrow3.cell_far ⟨w.heap.size, 1, none⟩ (by simp <;> omega) (Ne.symm (HV.out.2 _ (by dsimp only; omega)))).trans ((World.cell?_alloc_past _ _ _ (by first | omega | (simp; omega))).trans v1); have s2 := (hgrow3.cell_far ⟨b, off + k * 2, none⟩ (by simp <;> omega) (Ne.symm (HV.out.2 _ (by dsimp only; omega)))).trans ((World.cell?_alloc_past _ _ _ (by first | omega | (simp; omega))).trans u0); have s3 := (hgrow3.cell_far ⟨b, off + k * 2 + 1, none⟩ (by simp <;> omega) (Ne.symm (HV.out.2 _ (by dsimp only; omega)))).trans ((World.cell?_alloc_past _ _ _ (by first | omega | (simp; omega))).trans u1)))
      go_wp2
      go_roundw
      case rel =>
        obtain ⟨hrow, hlen, hsame, hok, hne, hbel⟩ := HR.out
        obtain ⟨hown, hb2, hgm, hgl⟩ := H2.out
        obtain ⟨hxe, hpr, hrr, hbw, hlnr⟩ := HX.out
        obtain ⟨hv2, hlo⟩ := HV.out
        have K3 : Kept (fun k => u3.ownBlock = some k) w2 w3 := Kept.grown (((Kept.refl _ w2).alloc _).drew) hgrow3 (fun k _ e => e)
        have hzz := hb2.size
        have hul : ∀ kk, u3.ownBlock = some kk → kk < wr.heap.size := fun kk e => (hrow.lt _ e).2
        refine ⟨k + 1, qs ++ [⟨dn, gm, cm, lost⟩], _, by omega, by go_num, rfl, hid ⟨?_, by simp [hlen], ?_, ?_, ?_, ?_⟩⟩
        · have e : (qs ++ [(⟨dn, gm, cm, lost⟩ : Qk)]).flatMap qcs = qs.flatMap qcs ++ [.int .i64 dn, .slice (some ⟨gm, 0, none⟩) lost.length cm] := by simp [qcs]
          rw [e]
          exact hown3
        · intro i q p hq hp
          by_cases hi : i < qs.length
          · rw [List.getElem?_append_left hi] at hq
            exact hsame i q p hq hp
          · rw [List.getElem?_append_right (by omega)] at hq
            have : i = k := by
              rcases Nat.lt_or_ge (i - qs.length) 1 with h | h
              · omega
              · rw [List.getElem?_eq_none (by simpa using h)] at hq; cases hq
            subst this
            simp [hlen] at hq
            simp [hlt] at hp
            rw [← hp, ← hxe, ← hq]
            exact ⟨rfl, rfl⟩
        · intro q hq
          rcases List.mem_append.1 hq with h | h
          · have o1 := ownsRow_kept (hok q h) (Kept.ofBelow hb2) (fun _ _ e => e)
            exact ownsRow_kept o1 K3 (fun kk hk e => hne q h (by simp only [Value.ownBlock] at hk; rw [e, ← hk]))
          · simp at h
            subst h
            exact ownsRow_kept hown K3 (fun kk hk e => by simp only [Value.ownBlock, Option.some.injEq] at hk; have := hul kk e; omega)
        · intro q hq e
          simp only [Value.ownBlock, Option.some.injEq] at e
          have hg2 : gg < wr.heap.size ∧ u3.ownBlock = some gg ∨ w2.heap.size < gg := by
            rcases hat3 with h | h
            · exact .inl ⟨hul _ h, h⟩
            · exact .inr (by omega)
          rcases List.mem_append.1 hq with h | h
          · have hql : q.g < wr.heap.size := ((hok q h).lt q.g rfl).2
            rcases hg2 with ⟨h1, h2⟩ | h1
            · exact hne q h (by rw [h2, e])
            · omega
          · simp at h
            subst h
            dsimp only at e
            rcases hg2 with ⟨h1, h2⟩ | h1
            · omega
            · omega
        · exact (hbel.trans (hb2.mono hzr)).trans (K3.below (by omega) hlo)
      case measure => simp [intOf]; omega
    · have hke : k = ps.length := by omega
      subst hke
      have i2 : ¬ (ps.length : Int) < (ps.length : Int) := by omega
      have ff : ∀ o, wr.frozen? ⟨w.heap.size + 1, o, none⟩ = false := fun o => free_of_block hrr
      obtain ⟨r0, r1⟩ := cells2 hrr
      have HX := hid (And.intro hpr (And.intro hrr hbw))
      have hul : ∀ kk, u3.ownBlock = some kk → w.heap.size + 2 ≤ kk := fun kk e => (hrow.lt _ e).1
      have HV := hid (And.intro hrow hul)
      clear hrow hlen hsame hok hne hbel hb0 hp0 hr0 hs0 hbw hpr hrr hul
      go_wp2_with (
        at_builtin
        first
        | (refine wpList_append_lies _ rfl _ _ 39 rfl (w.heap.size + 2) 91 i91 _ 2 32 Tryz.underlying39 hi91 hy0 hy1 hy2 rfl (by omega) u3 ps.length (qs.flatMap qcs) rfl (HV.out.1.alloc _) ⟨wr.heap.size, 0, none⟩ 1 1 [.int .i64 705, .slice none 0 0] rfl rfl (World.news_of_block (cs := #[.int .i64 705, .slice none 0 0]) (t := 91) (fr := (0, 0)) (heap_alloc_new wr _)) (by simp [Value.oneCell']) (by omega) (by unfold maxLen; omega) (by omega) (by simp <;> omega) (wr.heap.size + 1) (by simp) ?_
           intro gg cap w3 hown3 hgrow3 hat3 hlt3
           have K3 : Kept (fun k => u3.ownBlock = some k) wr w3 := Kept.grown ((Kept.refl _ wr).alloc _) hgrow3 (fun k _ e => e)
           have hlo : ∀ kk, kk < w.heap.size + 2 → ¬ u3.ownBlock = some kk := fun kk hk e => (by have := HV.out.2 kk e; omega)
           have s0 := K3.cell p0 (hlo _ (by dsimp only; omega))
           have s1 := K3.cell p1 (hlo _ (by dsimp only; omega))
           have t0 := K3.cell r0 (hlo _ (by dsimp only; omega))
           have t1 := K3.cell r1 (hlo _ (by dsimp only; omega))
           have hrr3 := hp_kept HX.out.2.1 K3 (hlo _ (by omega))
           have f3 : ∀ o, w3.frozen? ⟨w.heap.size + 1, o, none⟩ = false := fun o => free_of_block hrr3
           have hw3 : w.heap.size + 1 < w3.heap.size := hp_lt hrr3
           have sl := slice39 ⟨gg, 0, none⟩ (ps.length + 1) ps.length cap (by have := hown3.2; rcases this with ⟨h, _⟩ | ⟨_, _, _, h, _, _, hc, _⟩; cases h; injection h with _ _ h; omega)
           have H3 := hid (And.intro hown3 K3)
           clear hown3 hgrow3 hat3 hlt3 K3 hlo hrr3 p0 p1 r0 r1 ff))
      go_region
      go_wp2
      refine bodyPost_ret (v := .agg #[.int .i64 pn, .slice (some ⟨gg, 0, none⟩) ps.length cap]) (by simp [results, Tryz.results64, go_sem, t0, t1]) rfl ?_
      obtain ⟨hown3, K3⟩ := H3.out
      obtain ⟨hrow, hlen, hsame, hok, hne, hbel⟩ := HR.out
      have hlo : ∀ kk, kk < w.heap.size + 2 → ¬ u3.ownBlock = some kk := fun kk hk e => by have := HV.out.2 kk e; omega
      have k5 : Kept (fun k => k = w.heap.size + 1) w3 ((w3.setCell ⟨w.heap.size + 1, 0, none⟩ (.int .i64 pn)).setCell ⟨w.heap.size + 1, 1, none⟩ (.slice (some ⟨gg, 0, none⟩) ps.length cap)).drew := (((Kept.refl (fun k => k = w.heap.size + 1) w3).setCell (p := ⟨w.heap.size + 1, 0, none⟩) (fun _ => rfl) _).setCell (p := ⟨w.heap.size + 1, 1, none⟩) (fun _ => rfl) _).drew
      have o0 := ownsRow_kept hown3 k5 (fun k hk e => by have := (hown3.lt k hk).1; omega)
      have hbw3 : Below w.heap.size w w3 := HX.out.2.2.trans (K3.below HX.out.2.2.size (fun k hk => hlo k (by omega)))
      refine ⟨gg, cap, qs, rfl, ⟨ownsRow_base_a o0 (by omega), hlen, hsame, fun q hq => ?_⟩, ((hbw3.setCell (p := ⟨w.heap.size + 1, 0, none⟩) (by simp) _).setCell (p := ⟨w.heap.size + 1, 1, none⟩) (by simp) _).drew⟩
      have o1 := ownsRow_kept (hok q hq) K3 (fun kk hk e => hne q hq (by simp only [Value.ownBlock] at hk; rw [e, ← hk]))
      have o2 := ownsRow_kept o1 k5 (fun k hk e => by have := (o1.lt k hk).1; omega)
      exact ownsRow_base_a o2 (by omega)

end Go.Proofs.YtlmompdfombgeaaGreat

namespace Go.Proofs.YtlmompdfombgeaaGreat
open Go.RowKit Go.MapKept

set_option maxRecDepth 100000 in
set_option maxHeartbeats 800000 in
theorem fresh_no (room files : Int) (w : World) (h : ¬ (0 ≤ room ∧ room ≤ 4194304 ∧ 0 ≤ files ∧ files ≤ 512)) :
    Calls Tryz.prog 34 #[.int .i64 room, .int .i64 files] w fun x w' => x = .returned (.pointer none) ∧ w' = w := by
  have HC := hid (new_no room files w h)
  clear h
  go_enter Tryz.func34, Tryz.ntmps34
  go_wp2_with (go_at_call 9; refine HC.out.mono ?_; rintro e w' ⟨rfl, e1⟩; rw [e1]; clear e1 w')
  go_ret
  exact ⟨rfl, rfl⟩

set_option maxRecDepth 100000 in
set_option maxHeartbeats 800000 in
theorem fresh_ok (room files : Int) (w : World) (h0 : 0 ≤ room) (h1 : room ≤ 4194304) (h2 : 0 ≤ files) (h3 : files ≤ 512) :
    Calls Tryz.prog 34 #[.int .i64 room, .int .i64 files] w fun x w' => x = .returned (.pointer (some ⟨w.heap.size, 0, none⟩)) ∧ (∃ t, DkT w' w.heap.size t (newD room files) ∧ ∀ k, Dft w.heap.size t (newD room files) k → w.heap.size ≤ k) ∧ Below w.heap.size w w' := by
  have HC := hid (new_ok room files w h0 h1 h2 h3)
  go_enter Tryz.func34, Tryz.ntmps34
  go_wp2_with (go_at_call 9; refine HC.out.mono ?_; rintro e w1 ⟨rfl, hz, hb⟩; have HZ := hid (And.intro hz hb); clear hz hb)
  go_ret
  exact ⟨rfl, zero_dk HZ.out.1, HZ.out.2⟩

theorem stroke_room (D : Dq) (e : Int) (k : Dq → Int × Dq) (hk : ∀ D, (k D).2.room = D.room ∧ (k D).2.limit = D.limit) : (strokeP D e k).2.room = D.room ∧ (strokeP D e k).2.limit = D.limit := by
  unfold strokeP
  split
  · exact ⟨rfl, rfl⟩
  · split
    · exact ⟨rfl, rfl⟩
    · exact hk (cntS D)

theorem doesP_room (x : Sp) (D : Dq) : (doesP x D).2.room = D.room ∧ (doesP x D).2.limit = D.limit := by
  unfold doesP
  repeat' split
  · exact stroke_room _ _ _ fun D => by unfold createK; split <;> exact ⟨rfl, rfl⟩
  · exact stroke_room _ _ _ fun D => by unfold appK; (repeat' split) <;> exact ⟨rfl, rfl⟩
  · exact stroke_room _ _ _ fun D => by unfold cutK; dsimp only; (repeat' split) <;> exact ⟨rfl, rfl⟩
  · exact stroke_room _ _ _ fun D => by unfold syncK; dsimp only; (repeat' split) <;> exact ⟨rfl, rfl⟩
  · exact stroke_room _ _ _ fun D => ⟨rfl, rfl⟩
  · exact stroke_room _ _ _ fun D => by unfold renK; dsimp only; (repeat' split) <;> exact ⟨rfl, rfl⟩
  · exact stroke_room _ _ _ fun D => ⟨rfl, rfl⟩
  · unfold readP; (repeat' split) <;> exact ⟨rfl, rfl⟩
  · exact ⟨rfl, rfl⟩
  · exact ⟨rfl, rfl⟩
  · unfold handP; (repeat' split) <;> exact ⟨rfl, rfl⟩
  · exact ⟨rfl, rfl⟩

/-- What a crash has left. -/
theorem doesP_crash (x : Sp) (D : Dq) {n : Nat} (h : WD n D) (hk : x.kind = 10) : Calm (doesP x D).2 ∧ heldD (doesP x D).2 ≤ heldD D ∧ (doesP x D).2.files.length ≤ D.files.length ∧ (doesP x D).2.off = false ∧ (doesP x D).2.st = 0 ∧ (doesP x D).2.rd = 0 := by
  have e : doesP x D = (0, (crashP x.pn (pksOf x.pk) D).2) := by
    unfold doesP
    rw [if_neg (by omega), if_neg (by omega), if_neg (by omega), if_neg (by omega), if_neg (by omega), if_neg (by omega), if_neg (by omega), if_neg (by omega), if_neg (by omega), if_pos hk]
  rw [e]
  exact ⟨calm_crash _ _, crash_held h _ _, crash_cnt _ _, rfl, rfl, rfl⟩

end Go.Proofs.YtlmompdfombgeaaGreat

namespace Go.Proofs.YtlmompdfombgeaaGreat
open Go.RowKit Go.MapKept

/-- Two disks that tell the same but for the power and the counts. -/
structure Alike (D D' : Dq) : Prop where
  fi : D'.files = D.files
  sn : D'.safeN = D.safeN
  tu : D'.turns = D.turns

theorem Alike.refl (D : Dq) : Alike D D := ⟨rfl, rfl, rfl⟩

theorem Alike.names {D D' : Dq} (h : Alike D D') : D'.names = D.names := by unfold Dq.names; rw [h.sn, h.tu]
theorem Alike.files {D D' : Dq} (h : Alike D D') : filesD D' = filesD D := by
  unfold filesD
  rw [h.names]
  congr 1
  funext m
  unfold rowN
  rw [h.fi]
theorem Alike.safe {D D' : Dq} (h : Alike D D') : safeD D' = safeD D := by
  unfold safeD
  rw [h.sn]
  congr 1
  funext m
  unfold safN
  rw [h.fi]
theorem Alike.held {D D' : Dq} (h : Alike D D') : heldD D' = heldD D := by unfold heldD; rw [h.fi]
theorem Alike.pend {D D' : Dq} (h : Alike D D') : pendD D' = pendD D := by unfold pendD; rw [h.fi]

/-- What a call that is neither a crash nor a plan may have done. -/
inductive Ref (kind e : Int) (D D' : Dq) : Prop where
  | still : e ≠ 0 → 1 ≤ kind → D' = D → Ref kind e D D'
  | rest : e = 0 → (kind < 1 ∨ 11 < kind) → D' = D → Ref kind e D D'
  | struck : 1 ≤ kind → kind ≤ 7 → e ≠ 0 → e ≠ 11 → D'.st = D.st + 1 → D'.rd = D.rd → D.off = false → D'.off = false → Alike D D' → Ref kind e D D'
  | out : 1 ≤ kind → kind ≤ 7 → e = 11 → D'.st = D.st + 1 → D'.rd = D.rd → D.off = false → D'.off = true → Alike D D' → Ref kind e D D'
  | done : 1 ≤ kind → kind ≤ 7 → e = 0 → D'.st = D.st + 1 → D'.rd = D.rd → D.off = false → D'.off = false → Ref kind e D D'
  | read : kind = 8 → e ≠ 11 → D'.st = D.st → D'.rd = D.rd + 1 → D.off = false → D'.off = false → Alike D D' → Ref kind e D D'
  | readOut : kind = 8 → e = 11 → D'.st = D.st → D'.rd = D.rd + 1 → D.off = false → D'.off = true → Alike D D' → Ref kind e D D'
  | hand : kind = 11 → e = 0 → D'.st = D.st → D'.rd = D.rd → D'.off = D.off → Ref kind e D D'

theorem fe_cases (n : Int) : fe n = 0 ∧ n ≠ 1 ∨ fe n ≠ 0 ∧ (fe n = 11 ∧ n = 1 ∨ fe n ≠ 11 ∧ n ≠ 1) := by
  unfold fe
  repeat' split
  all_goals omega

theorem ref_stroke (kind : Int) (h1 : 1 ≤ kind) (h7 : kind ≤ 7) (D : Dq) (e : Int) (k : Dq → Int × Dq) (he : e = 0 → D.off = false) (hk : e = 0 → (∀ D0, D0 = cntS D → ((k D0).1 = 0 ∧ (k D0).2.st = D0.st ∧ (k D0).2.rd = D0.rd ∧ (k D0).2.off = D0.off) ∨ ((k D0).1 ≠ 0 ∧ (k D0).1 ≠ 11 ∧ (k D0).2 = D0))) : Ref kind (strokeP D e k).1 D (strokeP D e k).2 := by
  unfold strokeP
  by_cases e0 : e = 0
  · rw [if_neg (by simpa using e0)]
    have ho := he e0
    rcases fe_cases (fo D.fs (D.st + 1)) with ⟨f0, f1⟩ | ⟨f0, f1⟩
    · rw [if_neg (by simpa using f0)]
      have hoff : (cntS D).off = false := by simp [cntS, f1]
      rcases hk e0 (cntS D) rfl with ⟨a, b, c, d⟩ | ⟨a, b, c⟩
      · exact .done h1 h7 a b c ho (by rw [d]; exact hoff)
      · refine .struck h1 h7 a b ?_ ?_ ho ?_ ?_
        · rw [c]; rfl
        · rw [c]; rfl
        · rw [c]; exact hoff
        · rw [c]; exact ⟨rfl, rfl, rfl⟩
    · rw [if_pos f0]
      rcases f1 with ⟨f1, f2⟩ | ⟨f1, f2⟩
      · exact .out h1 h7 f1 rfl rfl ho (by simp [cntS, f2]) ⟨rfl, rfl, rfl⟩
      · exact .struck h1 h7 f0 f1 rfl rfl ho (by simp [cntS, f2]) ⟨rfl, rfl, rfl⟩
  · rw [if_pos (by simpa using e0)]
    exact .still e0 h1 rfl

theorem does_ref (x : Sp) (D : Dq) (h9 : x.kind ≠ 9) (h10 : x.kind ≠ 10) : Ref x.kind (doesP x D).1 D (doesP x D).2 := by
  unfold doesP
  by_cases k1 : x.kind = 1
  · rw [if_pos k1]
    refine ref_stroke _ (by omega) (by omega) D _ _ pre1_off (fun _ D0 _ => ?_)
    unfold createK
    split
    · exact .inr ⟨by simp, by simp, rfl⟩
    · exact .inl ⟨rfl, rfl, rfl, rfl⟩
  rw [if_neg k1]
  by_cases k2 : x.kind = 2
  · rw [if_pos k2]
    refine ref_stroke _ (by omega) (by omega) D _ _ pre1_off (fun _ D0 _ => ?_)
    unfold appK
    split
    · split
      · exact .inr ⟨by simp, by simp, rfl⟩
      · split
        · exact .inl ⟨rfl, rfl, rfl, rfl⟩
        · exact .inl ⟨rfl, rfl, rfl, rfl⟩
    · exact .inl ⟨rfl, rfl, rfl, rfl⟩
  rw [if_neg k2]
  by_cases k3 : x.kind = 3
  · rw [if_pos k3]
    refine ref_stroke _ (by omega) (by omega) D _ _ pre1_off (fun _ D0 _ => .inl ?_)
    unfold cutK
    dsimp only
    repeat' split
    all_goals exact ⟨rfl, rfl, rfl, rfl⟩
  rw [if_neg k3]
  by_cases k4 : x.kind = 4
  · rw [if_pos k4]
    refine ref_stroke _ (by omega) (by omega) D _ _ pre1_off (fun _ D0 _ => .inl ?_)
    unfold syncK
    dsimp only
    repeat' split
    all_goals exact ⟨rfl, rfl, rfl, rfl⟩
  rw [if_neg k4]
  by_cases k5 : x.kind = 5
  · rw [if_pos k5]
    exact ref_stroke _ (by omega) (by omega) D _ _ pre0_off (fun _ D0 _ => .inl ⟨rfl, rfl, rfl, rfl⟩)
  rw [if_neg k5]
  by_cases k6 : x.kind = 6
  · rw [if_pos k6]
    refine ref_stroke _ (by omega) (by omega) D _ _ pre2_off (fun _ D0 _ => .inl ?_)
    unfold renK
    dsimp only
    repeat' split
    all_goals exact ⟨rfl, rfl, rfl, rfl⟩
  rw [if_neg k6]
  by_cases k7 : x.kind = 7
  · rw [if_pos k7]
    exact ref_stroke _ (by omega) (by omega) D _ _ pre1_off (fun _ D0 _ => .inl ⟨rfl, rfl, rfl, rfl⟩)
  rw [if_neg k7]
  by_cases k8 : x.kind = 8
  · rw [if_pos k8]
    unfold readP
    by_cases e0 : pre1 D x.name false 0 = 0
    · rw [if_neg (by simpa using e0)]
      have ho := pre1_off e0
      rcases fe_cases (fo D.fr (D.rd + 1)) with ⟨f0, f1⟩ | ⟨f0, f1⟩
      · rw [if_neg (by simpa using f0)]
        exact .read k8 (by simp) rfl rfl ho (by simp [cntR, f1]) ⟨rfl, rfl, rfl⟩
      · rw [if_pos f0]
        rcases f1 with ⟨f1, f2⟩ | ⟨f1, f2⟩
        · exact .readOut k8 f1 rfl rfl ho (by simp [cntR, f2]) ⟨rfl, rfl, rfl⟩
        · exact .read k8 f1 rfl rfl ho (by simp [cntR, f2]) ⟨rfl, rfl, rfl⟩
    · rw [if_pos (by simpa using e0)]
      exact .still e0 (by omega) rfl
  rw [if_neg k8, if_neg h9, if_neg h10]
  by_cases k11 : x.kind = 11
  · rw [if_pos k11]
    unfold handP
    repeat' split
    · exact .still (by simp) (by omega) rfl
    · exact .still (by simp) (by omega) rfl
    · exact .still (by simp) (by omega) rfl
    · exact .hand k11 rfl rfl rfl rfl
  · rw [if_neg k11]
    exact .rest rfl (by omega) rfl

end Go.Proofs.YtlmompdfombgeaaGreat
