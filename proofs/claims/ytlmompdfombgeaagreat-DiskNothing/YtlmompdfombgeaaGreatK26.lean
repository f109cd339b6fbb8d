import Derived.Test.YtlmompdfombgeaaGreatK24
import Derived.Deep.RegionHeldLaw
namespace Go.Proofs.YtlmompdfombgeaaGreat
open Go.RowKit Go.MapKept

/-- A pick in lists of its own. -/
structure Qk where
  done : Int
  g : Nat
  cap : Nat
  lost : List Int
instance : Inhabited Qk := ⟨⟨0, 0, 0, []⟩⟩
def qcs (x : Qk) : List Value := [.int .i64 x.done, .slice (some ⟨x.g, 0, none⟩) x.lost.length x.cap]
def ics (ls : List Int) : List Value := ls.flatMap fun x => [.int .i64 x]
/-- Its list with the marks behind. -/
def Qk.ok (w : World) (B : Nat) (q : Qk) : Prop := w.ownsRow B 3 1 (.slice (some ⟨q.g, 0, none⟩) (q.lost.length + 2) q.cap) (q.lost.length + 2) (ics q.lost ++ [.int .i64 703, .int .i64 704])
/-- The same pick. -/
def Qk.as (q : Qk) (p : Pk) : Prop := q.done = p.done ∧ q.lost = p.lost

theorem Tryz.info91 : (Tryz.prog.info? 91).map (fun i => (i.zero, i.size, i.bytes)) = some (some (.agg #[.int .i64 0, .slice none 0 0]), 2, 32) := by kernel_rfl
theorem Tryz.elem64 : Tryz.prog.underlying 64 = some (.slice (Tryz.prog.elem 64)) := by kernel_rfl
theorem Tryz.elem64Is : Tryz.prog.elem 64 = 3 := by kernel_rfl
theorem Tryz.elem39 : Tryz.prog.underlying 39 = some (.slice (Tryz.prog.elem 39)) := by kernel_rfl
theorem Tryz.elem39Is : Tryz.prog.elem 39 = 91 := by kernel_rfl
theorem size91 (w : World) : (sizeOf (Tryz.prog.elem 39)).run Tryz.prog w = .ok 2 w := by
  obtain ⟨i0, hi, hz0, hz1, hz2⟩ := info_parts Tryz.info91
  rw [Tryz.elem39Is]
  simp [sizeOf, typeInfo, hi, hz1]
theorem size3 (w : World) : (sizeOf (Tryz.prog.elem 64)).run Tryz.prog w = .ok 1 w := by
  obtain ⟨i0, hi, hz0, hz1, hz2⟩ := info_parts Tryz.info3
  rw [Tryz.elem64Is]
  simp [sizeOf, typeInfo, hi, hz1]
theorem slice39 (a : Addr) (n hi cap : Nat) (h : hi ≤ cap) (wx : World) : (Instr.slice 39 (.slice (some a) n cap) none (some (.int .i64 hi)) none).run Tryz.prog wx = .ok (.slice (some a) hi cap) wx := by
  rw [run_slice_h wx 39 (some a) n cap Tryz.elem39 .i64 hi (by omega) (by omega), size91]
  simp [sliced, Addr.add]
theorem slice64 (a : Addr) (n hi cap : Nat) (h : hi ≤ cap) (wx : World) : (Instr.slice 64 (.slice (some a) n cap) none (some (.int .i64 hi)) none).run Tryz.prog wx = .ok (.slice (some a) hi cap) wx := by
  rw [run_slice_h wx 64 (some a) n cap Tryz.elem64 .i64 hi (by omega) (by omega), size3]
  simp [sliced, Addr.add]

theorem hp_below' {B k : Nat} {w w' : World} {o : Obj} (h : w.heap[k]? = some o) (hb : Below B w w') (hk : k < B) : w'.heap[k]? = some o := (hb.block k hk).trans h

/-- l holds the first k picks. -/
structure Pkd (B : Nat) (W wr : World) (v : Value) (ps : List Pk) (k : Nat) (qs : List Qk) : Prop where
  row : wr.ownsRow B 91 2 v k (qs.flatMap qcs)
  len : qs.length = k
  same : ∀ (i : Nat) (q : Qk) (p : Pk), qs[i]? = some q → ps[i]? = some p → q.as p
  ok : ∀ q ∈ qs, q.ok wr B
  ne : ∀ q ∈ qs, v.ownBlock ≠ some q.g
  bel : Below B W wr

/-- The picks as they were made. -/
structure Qks (w : World) (B g cap : Nat) (ps : List Pk) (qs : List Qk) : Prop where
  row : w.ownsRow B 91 2 (.slice (some ⟨g, 0, none⟩) (ps.length + 1) cap) (ps.length + 1) (qs.flatMap qcs ++ [.int .i64 705, .slice none 0 0])
  len : qs.length = ps.length
  same : ∀ (i : Nat) (q : Qk) (p : Pk), qs[i]? = some q → ps[i]? = some p → q.as p
  ok : ∀ q ∈ qs, q.ok w B

set_option maxRecDepth 100000 in
set_option maxHeartbeats 3200000 in
theorem picked_any (pn : Int) (fv : Value) (ps : List Pk) (w : World) (h : Pks w fv ps) (hl : ps.length ≤ 300) (hl2 : ∀ p ∈ ps, p.lost.length ≤ 300) :
    Calls Tryz.prog 64 #[.agg #[.int .i64 pn, fv]] w fun x w' => ∃ g cap qs, x = .returned (.agg #[.int .i64 pn, .slice (some ⟨g, 0, none⟩) ps.length cap]) ∧ Qks w' w.heap.size g cap ps qs ∧ Below w.heap.size w w' := by
  obtain ⟨ao, cp, rfl, hc1, hc2⟩ := h.1.shape
  have HP := hid h
  clear h
  obtain ⟨i91, hi91, hy0, hy1, hy2⟩ := info_parts Tryz.info91
  obtain ⟨i3, hi3, hx0, hx1, hx2⟩ := info_parts Tryz.info3
  have hb0 : Below w.heap.size w ((w.alloc (.cells #[.int .i64 pn, .slice ao ps.length cp] 41)).alloc (.cells #[.int .i64 0, .slice none 0 0] 41)) := ((Below.refl _ _).alloc (Nat.le_refl _) _).alloc (by simp) _
  have hp0 : ((w.alloc (.cells #[.int .i64 pn, .slice ao ps.length cp] 41)).alloc (.cells #[.int .i64 0, .slice none 0 0] 41)).heap[w.heap.size]? = some (.cells #[.int .i64 pn, .slice ao ps.length cp] 41 (0, 0)) := hp_alloc (hp_new _ _) _
  have hr0 : ((w.alloc (.cells #[.int .i64 pn, .slice ao ps.length cp] 41)).alloc (.cells #[.int .i64 0, .slice none 0 0] 41)).heap[w.heap.size + 1]? = some (.cells #[.int .i64 0, .slice none 0 0] 41 (0, 0)) := by
    have := hp_new (w.alloc (.cells #[.int .i64 pn, .slice ao ps.length cp] 41)) (.cells #[.int .i64 0, .slice none 0 0] 41)
    simpa using this
  have hs0 : ((w.alloc (.cells #[.int .i64 pn, .slice ao ps.length cp] 41)).alloc (.cells #[.int .i64 0, .slice none 0 0] 41)).heap.size = w.heap.size + 2 := by simp
  have H0 := hid (And.intro hb0 (And.intro hp0 (And.intro hr0 hs0)))
  clear hb0 hp0 hr0 hs0
  have HL2 := hid hl2
  clear hl2
  go_enter Tryz.func64, Tryz.ntmps64
  go_wp2
  go_loopw [3, 4] (fun l i wr => ∃ (k : Nat) (qs : List Qk) (v : Value), k ≤ ps.length ∧ i = .int .i64 k ∧ l = v ∧ Hid (Pkd (w.heap.size + 2) ((w.alloc (.cells #[.int .i64 pn, .slice ao ps.length cp] 41)).alloc (.cells #[.int .i64 0, .slice none 0 0] 41)) wr v ps k qs)) (fun _ i _ => ps.length - (intOf i).toNat)
  case atStart => exact ⟨0, [], .slice none 0 0, Nat.zero_le _, by go_num, rfl, hid ⟨owns_nil _ _ _ _, rfl, by simp, by simp, by simp, Below.refl _ _⟩⟩
  case round =>
    obtain ⟨k, qs, v, hk, rfl, rfl, HR⟩ := hrel
    obtain ⟨hrow, hlen, hsame, hok, hne, hbel⟩ := HR.out
    obtain ⟨hb0, hp0, hr0, hs0⟩ := H0.out
    have hzr : w.heap.size + 2 ≤ wr.heap.size := by have := hbel.size; omega
    have hbw : Below w.heap.size w wr := hb0.trans (hbel.mono (by omega))
    have hpr := hp_below' hp0 hbel (by omega)
    have hrr := hp_below' hr0 hbel (by omega)
    obtain ⟨p0, p1⟩ := cells2 hpr
    by_cases hlt : k < ps.length
    · obtain ⟨b, off, cap', e, -, -, hcell⟩ := Rf.elem (f := pcs) (fun _ => rfl) (by omega) HP.out.1 k hlt
      injection e with e1 e2 e3
      subst e1 e3
      clear e2
      obtain ⟨x, hxe⟩ : ∃ x, x = ps[k] := ⟨_, rfl⟩
      have hmem := List.getElem_mem hlt
      rw [← hxe] at hcell hmem
      have hpok := HP.out.2 x hmem
      have hlost := HL2.out x hmem
      obtain ⟨dn, lv, lost⟩ := x
      obtain ⟨-, hln, -, -⟩ := hpok
      obtain ⟨a5, q5, e5, d9, d10⟩ := hln.shape
      dsimp only at e5 hlost d9 d10
      subst e5
      have y0 : w.cell? ⟨b, off + k * 2, none⟩ = some (.int .i64 dn) := hcell 0 _ rfl
      have y1 : w.cell? ⟨b, off + k * 2 + 1, none⟩ = some (.slice a5 lost.length q5) := hcell 1 _ rfl
      have x0 := (hbw.cell (World.block_lt_of_cell? _ _ y0)).trans y0
      have x1 := (hbw.cell (World.block_lt_of_cell? _ _ y1)).trans y1
      have hlnr : Ln wr (.slice a5 lost.length q5) lost := hln.below hbw
      have i2 : (k : Int) < (ps.length : Int) := by omega
      have HX := hid (And.intro hxe (And.intro hpr (And.intro hrr (And.intro hbw hlnr))))
      have hbl : b < w.heap.size := World.block_lt_of_cell? _ _ y0
      clear hrow hlen hsame hok hne hbel hb0 hp0 hr0 hs0 hbw hpr hrr hcell hmem hln hlnr y0 y1 hxe
      go_wp2_with (
        at_builtin
        first
        | (refine wpList_append_rf _ rfl _ _ 64 3 _ 1 8 rfl Tryz.underlying64 Tryz.info3 rfl (by omega) (w.heap.size + 2) (.slice none 0 0) 0 [] rfl (owns_nil _ _ _ _) (.slice a5 lost.length q5) lost.length (lost.flatMap fun x => [.int .i64 x]) rfl HX.out.2.2.2.2 (by omega) (by unfold maxLen; omega) hzr ?_
           intro ao1 c1 w1 ho1 hg1 hat1
           have hb1 := (Below.refl wr.heap.size wr).grown hg1.out (Nat.le_refl _) (fun k e => by simp [Value.ownBlock] at e)
           have ho1' := ho1.out
           simp only [Nat.zero_add, List.nil_append] at ho1'
           have hat1' : ∀ k, (Value.slice ao1 lost.length c1).ownBlock = some k → wr.heap.size ≤ k := fun k hk => (by
             have := hat1.out
             simp only [Nat.zero_add] at this
             rw [hk] at this
             rcases this with h | h
             · simp [Value.ownBlock] at h
             · injection h with h; omega)
           have hz1 := hb1.size
           have H1 := hid (And.intro ho1' (And.intro hb1 hat1'))
           clear ho1 hg1 hat1 hb1 ho1' hat1')
        | (refine wpList_append_lies _ rfl _ _ 64 rfl (w.heap.size + 2) 3 i3 _ 1 8 Tryz.underlying64 hi3 hx0 hx1 hx2 rfl (by omega) (.slice ao1 lost.length c1) lost.length (lost.flatMap fun x => [.int .i64 x]) rfl (H1.out.1.alloc _) ⟨w1.heap.size, 0, none⟩ 2 2 [.int .i64 703, .int .i64 704] rfl rfl (World.news_of_block (cs := #[.int .i64 703, .int .i64 704]) (t := 3) (fr := (0, 0)) (heap_alloc_new w1 _)) (by simp [Value.oneCell']) (by omega) (by unfold maxLen; omega) (by omega) (by simp <;> omega) (w1.heap.size + 1) (by simp) ?_
           intro gm cm w2 hown hgrow hat hgl
           have K2 : Kept (fun k => (Value.slice ao1 lost.length c1).ownBlock = some k) w1 w2 := Kept.grown ((Kept.refl _ w1).alloc _) hgrow (fun k _ e => e)
           have hb2 : Below wr.heap.size wr w2 := H1.out.2.1.trans (K2.below H1.out.2.1.size (fun k hk e => (by have := H1.out.2.2 k e; omega)))
           have u0 := (hb2.cell (World.block_lt_of_cell? _ _ x0)).trans x0
           have u1 := (hb2.cell (World.block_lt_of_cell? _ _ x1)).trans x1
           have v1 := (hb2.cell (World.block_lt_of_cell? _ _ p1)).trans p1
           have hz2 := hb2.size
           have hgm : wr.heap.size ≤ gm := (by
             rcases hat with h | h
             · exact H1.out.2.2 _ h
             · omega)
           have sl := slice64 ⟨gm, 0, none⟩ (lost.length + 2) lost.length cm (by have := hown.2; rcases this with ⟨h, _⟩ | ⟨_, _, _, h, _, _, hc, _⟩; cases h; injection h with _ _ h; omega)
           have H2 := hid (And.intro hown (And.intro hb2 (And.intro hgm hgl)))
           clear hown hgrow hat hgl K2 hb2 hgm x0 x1 p0 p1))
      have hv2 : w2.ownsRow (w.heap.size + 2) 91 2 u3 k (qs.flatMap qcs) := ownsRow_kept HR.out.row (Kept.ofBelow H2.out.2.1) (fun _ _ e => e)
      have hlo : ∀ kk, kk < w.heap.size + 2 → ¬ u3.ownBlock = some kk := fun kk hk e => by have := (hv2.lt _ e).1; omega
      have HV := hid (And.intro hv2 hlo)
      clear hv2 hlo
      go_region_held_law (fun w' => w'.cell? ⟨w.heap.size, 1, none⟩ = some (.slice (some ⟨b, off, none⟩) ps.length cp) ∧ w'.cell? ⟨b, off + k * 2, none⟩ = some (.int .i64 dn) ∧ w'.cell? ⟨b, off + k * 2 + 1, none⟩ = some (.slice a5 lost.length q5)) (go_keep)
        ((refine step_append_lies _ (by rfl) _ _ _ (by rfl) (w.heap.size + 2) 91 i91 _ 2 32 Tryz.underlying39 hi91 hy0 hy1 hy2 rfl (by omega) u3 k (qs.flatMap qcs) (by rfl) ((HV.out.1.alloc _).drew)
            ⟨w2.heap.size, 0, none⟩ 1 1 [.int .i64 dn, .slice (some ⟨gm, 0, none⟩) lost.length cm] (by rfl) (by rfl) (World.news_of_block (cs := #[.int .i64 dn, .slice (some ⟨gm, 0, none⟩) lost.length cm]) (t := 91) (fr := (0, 0)) (heap_alloc_new w2 _)) (by simp [Value.oneCell'])
            (by omega) (by unfold maxLen; omega) (by omega) (by simp <;> omega) (w2.heap.size + 1) (by simp) ?_; intro gg cap w3 hown3 hgrow3 hat3 hlt3; have s1 := (hgrow3.cell_far ⟨w.heap.size, 1, none⟩ (by simp <;> omega) (Ne.symm (HV.out.2 _ (by dsimp only; omega)))).trans ((World.cell?_alloc_past _ _ _ (by first | omega | (simp; omega))).trans v1); have s2 := (hgrow3.cell_far ⟨b, off + k * 2, none⟩ (by simp <;> omega) (Ne.symm (HV.out.2 _ (by dsimp only; omega)))).trans ((World.cell?_alloc_past _ _ _ (by first | omega | (simp; omega))).trans u0); have s3 := (hgrow3.cell_far ⟨b, off + k * 2 + 1, none⟩ (by simp <;> omega) (Ne.symm (HV.out.2 _ (by dsimp only; omega)))).trans ((World.cell?_alloc_past _ _ _ (by first | omega | (simp; omega))).trans u1)))
      go_wp2
      go_roundw
      case rel =>
        obtain ⟨hrow, hlen, hsame, hok, hne, hbel⟩ := HR.out
        obtain ⟨hown, hb2, hgm, hgl⟩ := H2.out
        obtain ⟨hxe, hpr, hrr, hbw, hlnr⟩ := HX.out
        obtain ⟨hv2, hlo⟩ := HV.out
        have K3 : Kept (fun k => u3.ownBlock = some k) w2 w3 := Kept.grown (((Kept.refl _ w2).alloc _).drew) hgrow3 (fun k _ e => e)
        have hzz := hb2.size
        have hul : ∀ kk, u3.ownBlock = some kk → kk < wr.heap.size := fun kk e => (hrow.lt _ e).2
        refine ⟨k + 1, qs ++ [⟨dn, gm, cm, lost⟩], _, by omega, by go_num, rfl, hid ⟨?_, by simp [hlen], ?_, ?_, ?_, ?_⟩⟩
        · have e : (qs ++ [(⟨dn, gm, cm, lost⟩ : Qk)]).flatMap qcs = qs.flatMap qcs ++ [.int .i64 dn, .slice (some ⟨gm, 0, none⟩) lost.length cm] := by simp [qcs]
          rw [e]
          exact hown3
        · intro i q p hq hp
          by_cases hi : i < qs.length
          · rw [List.getElem?_append_left hi] at hq
            exact hsame i q p hq hp
          · rw [List.getElem?_append_right (by omega)] at hq
            have : i = k := by
              rcases Nat.lt_or_ge (i - qs.length) 1 with h | h
              · omega
              · rw [List.getElem?_eq_none (by simpa using h)] at hq; cases hq
            subst this
            simp [hlen] at hq
            simp [hlt] at hp
            rw [← hp, ← hxe, ← hq]
            exact ⟨rfl, rfl⟩
        · intro q hq
          rcases List.mem_append.1 hq with h | h
          · have o1 := ownsRow_kept (hok q h) (Kept.ofBelow hb2) (fun _ _ e => e)
            exact ownsRow_kept o1 K3 (fun kk hk e => hne q h (by simp only [Value.ownBlock] at hk; rw [e, ← hk]))
          · simp at h
            subst h
            exact ownsRow_kept hown K3 (fun kk hk e => by simp only [Value.ownBlock, Option.some.injEq] at hk; have := hul kk e; omega)
        · intro q hq e
          simp only [Value.ownBlock, Option.some.injEq] at e
          have hg2 : gg < wr.heap.size ∧ u3.ownBlock = some gg ∨ w2.heap.size < gg := by
            rcases hat3 with h | h
            · exact .inl ⟨hul _ h, h⟩
            · exact .inr (by omega)
          rcases List.mem_append.1 hq with h | h
          · have hql : q.g < wr.heap.size := ((hok q h).lt q.g rfl).2
            rcases hg2 with ⟨h1, h2⟩ | h1
            · exact hne q h (by rw [h2, e])
            · omega
          · simp at h
            subst h
            dsimp only at e
            rcases hg2 with ⟨h1, h2⟩ | h1
            · omega
            · omega
        · exact (hbel.trans (hb2.mono hzr)).trans (K3.below (by omega) hlo)
      case measure => simp [intOf]; omega
    · have hke : k = ps.length := by omega
      subst hke
      have i2 : ¬ (ps.length : Int) < (ps.length : Int) := by omega
      have ff : ∀ o, wr.frozen? ⟨w.heap.size + 1, o, none⟩ = false := fun o => free_of_block hrr
      obtain ⟨r0, r1⟩ := cells2 hrr
      have HX := hid (And.intro hpr (And.intro hrr hbw))
      have hul : ∀ kk, u3.ownBlock = some kk → w.heap.size + 2 ≤ kk := fun kk e => (hrow.lt _ e).1
      have HV := hid (And.intro hrow hul)
      clear hrow hlen hsame hok hne hbel hb0 hp0 hr0 hs0 hbw hpr hrr hul
      go_wp2_with (
        at_builtin
        first
        | (refine wpList_append_lies _ rfl _ _ 39 rfl (w.heap.size + 2) 91 i91 _ 2 32 Tryz.underlying39 hi91 hy0 hy1 hy2 rfl (by omega) u3 ps.length (qs.flatMap qcs) rfl (HV.out.1.alloc _) ⟨wr.heap.size, 0, none⟩ 1 1 [.int .i64 705, .slice none 0 0] rfl rfl (World.news_of_block (cs := #[.int .i64 705, .slice none 0 0]) (t := 91) (fr := (0, 0)) (heap_alloc_new wr _)) (by simp [Value.oneCell']) (by omega) (by unfold maxLen; omega) (by omega) (by simp <;> omega) (wr.heap.size + 1) (by simp) ?_
           intro gg cap w3 hown3 hgrow3 hat3 hlt3
           have K3 : Kept (fun k => u3.ownBlock = some k) wr w3 := Kept.grown ((Kept.refl _ wr).alloc _) hgrow3 (fun k _ e => e)
           have hlo : ∀ kk, kk < w.heap.size + 2 → ¬ u3.ownBlock = some kk := fun kk hk e => (by have := HV.out.2 kk e; omega)
           have s0 := K3.cell p0 (hlo _ (by dsimp only; omega))
           have s1 := K3.cell p1 (hlo _ (by dsimp only; omega))
           have t0 := K3.cell r0 (hlo _ (by dsimp only; omega))
           have t1 := K3.cell r1 (hlo _ (by dsimp only; omega))
           have hrr3 := hp_kept HX.out.2.1 K3 (hlo _ (by omega))
           have f3 : ∀ o, w3.frozen? ⟨w.heap.size + 1, o, none⟩ = false := fun o => free_of_block hrr3
           have hw3 : w.heap.size + 1 < w3.heap.size := hp_lt hrr3
           have sl := slice39 ⟨gg, 0, none⟩ (ps.length + 1) ps.length cap (by have := hown3.2; rcases this with ⟨h, _⟩ | ⟨_, _, _, h, _, _, hc, _⟩; cases h; injection h with _ _ h; omega)
           have H3 := hid (And.intro hown3 K3)
           clear hown3 hgrow3 hat3 hlt3 K3 hlo hrr3 p0 p1 r0 r1 ff))
      go_region
      go_wp2
      refine bodyPost_ret (v := .agg #[.int .i64 pn, .slice (some ⟨gg, 0, none⟩) ps.length cap]) (by simp [results, Tryz.results64, go_sem, t0, t1]) rfl ?_
      obtain ⟨hown3, K3⟩ := H3.out
      obtain ⟨hrow, hlen, hsame, hok, hne, hbel⟩ := HR.out
      have hlo : ∀ kk, kk < w.heap.size + 2 → ¬ u3.ownBlock = some kk := fun kk hk e => by have := HV.out.2 kk e; omega
      have k5 : Kept (fun k => k = w.heap.size + 1) w3 ((w3.setCell ⟨w.heap.size + 1, 0, none⟩ (.int .i64 pn)).setCell ⟨w.heap.size + 1, 1, none⟩ (.slice (some ⟨gg, 0, none⟩) ps.length cap)).drew := (((Kept.refl (fun k => k = w.heap.size + 1) w3).setCell (p := ⟨w.heap.size + 1, 0, none⟩) (fun _ => rfl) _).setCell (p := ⟨w.heap.size + 1, 1, none⟩) (fun _ => rfl) _).drew
      have o0 := ownsRow_kept hown3 k5 (fun k hk e => by have := (hown3.lt k hk).1; omega)
      have hbw3 : Below w.heap.size w w3 := HX.out.2.2.trans (K3.below HX.out.2.2.size (fun k hk => hlo k (by omega)))
      refine ⟨gg, cap, qs, rfl, ⟨ownsRow_base_a o0 (by omega), hlen, hsame, fun q hq => ?_⟩, ((hbw3.setCell (p := ⟨w.heap.size + 1, 0, none⟩) (by simp) _).setCell (p := ⟨w.heap.size + 1, 1, none⟩) (by simp) _).drew⟩
      have o1 := ownsRow_kept (hok q hq) K3 (fun kk hk e => hne q hq (by simp only [Value.ownBlock] at hk; rw [e, ← hk]))
      have o2 := ownsRow_kept o1 k5 (fun k hk e => by have := (o1.lt k hk).1; omega)
      exact ownsRow_base_a o2 (by omega)

end Go.Proofs.YtlmompdfombgeaaGreat

namespace Go.Proofs.YtlmompdfombgeaaGreat
open Go.RowKit Go.MapKept

set_option maxRecDepth 100000 in
set_option maxHeartbeats 800000 in
theorem ints_same (a b : Value) (ls : List Int) (w : World) (ha : Ln w a ls) (hb : Ln w b ls) (hl : ls.length ≤ 1000000) :
    Calls Tryz.prog 45 #[a, b] w fun x w' => x = .returned (.bool true) ∧ DN w w' := by
  obtain ⟨ao, acap, rfl, hac, -⟩ := ha.shape
  obtain ⟨bo, bcap, rfl, hbc, -⟩ := hb.shape
  have HA := hid ha
  have HB := hid hb
  clear ha hb
  go_enter Tryz.func45, Tryz.ntmps45
  go_wp2
  go_loopw [5] (fun i wr => ∃ (k : Nat), k ≤ ls.length ∧ i = .int .i64 k ∧ DN w wr) (fun i _ => ls.length - (intOf i).toNat)
  case atStart => exact ⟨0, Nat.zero_le _, rfl, DN.refl w⟩
  case round =>
    obtain ⟨k, hk, rfl, hdn⟩ := hrel
    by_cases hlt : k < ls.length
    · obtain ⟨ab, aoff, cap1, e, -, -, haj⟩ := Rf.elem (m := 1) (f := fun x : Int => [Value.int .i64 x]) (fun _ => rfl) (by omega) HA.out k hlt
      injection e with e1 e2 e3
      subst e1 e3
      clear e2
      obtain ⟨bb, boff, cap2, e, -, -, hbj⟩ := Rf.elem (m := 1) (f := fun x : Int => [Value.int .i64 x]) (fun _ => rfl) (by omega) HB.out k hlt
      injection e with e1 e2 e3
      subst e1 e3
      clear e2
      obtain ⟨x, hx⟩ : ∃ x, x = ls[k] := ⟨_, rfl⟩
      rw [← hx] at haj hbj
      have ca : wr.cell? ⟨ab, aoff + k, none⟩ = some (.int .i64 x) := (hdn.cell _).trans (by have := haj 0 _ rfl; simpa using this)
      have cb : wr.cell? ⟨bb, boff + k, none⟩ = some (.int .i64 x) := (hdn.cell _).trans (by have := hbj 0 _ rfl; simpa using this)
      have i2 : (k : Int) < (ls.length : Int) := by omega
      clear haj hbj hx
      go_wp2
      go_quiet (fail)
      go_wp2
      go_roundw
      case rel => first | exact ⟨k + 1, by omega, by go_num, hdn.more _⟩ | exact ⟨k + 1, by omega, by go_num, hdn⟩ | ((repeat apply Exists.intro); exact ⟨⟨k + 1, by omega, by go_num, hdn.more _⟩, rfl⟩)
      case measure => simp [intOf]; omega
    · have i2 : ¬ (k : Int) < (ls.length : Int) := by omega
      go_wp2
      go_ret
      exact ⟨rfl, hdn⟩

/-- The short list out of the marked one. -/
theorem Qk.ln {w : World} {B : Nat} {q : Qk} (h : q.ok w B) : Ln w (.slice (some ⟨q.g, 0, none⟩) q.lost.length q.cap) q.lost ∧ q.lost.length + 2 ≤ q.cap ∧ w.cell? ⟨q.g, q.lost.length, none⟩ = some (.int .i64 703) ∧ w.cell? ⟨q.g, q.lost.length + 1, none⟩ = some (.int .i64 704) := by
  have hm : q.cap ≤ maxLen ∧ q.lost.length + 2 ≤ q.cap := by
    rcases h.2 with ⟨h, _⟩ | ⟨_, _, _, h, _, _, hc, hm, _⟩
    · cases h
    · injection h with _ _ h; rw [h]; exact ⟨hm, hc⟩
  have hlen : (ics q.lost).length = q.lost.length := by simpa [ics] using flat_len (fun x : Int => [Value.int .i64 x]) 1 (fun _ => rfl) q.lost
  refine ⟨⟨by simpa [ics] using hlen, ?_, .inr ⟨_, q.cap, rfl, by omega, hm.1, fun j u hu => ?_⟩⟩, hm.2, ?_, ?_⟩
  · intro u hu
    obtain ⟨y, _, hy⟩ := List.mem_flatMap.1 hu
    simp at hy
    subst hy
    rfl
  · have hj : j < (ics q.lost).length := by
      rcases Nat.lt_or_ge j (ics q.lost).length with h | h
      · exact h
      · have : (ics q.lost)[j]? = some u := hu
        rw [List.getElem?_eq_none h] at this; cases this
    exact h.cells (g := q.g) rfl j u (by rw [List.getElem?_append_left hj]; exact hu)
  · have := h.cells (g := q.g) rfl q.lost.length (.int .i64 703) (by rw [List.getElem?_append_right (by omega), hlen]; simp)
    rwa [add_lit, Nat.zero_add] at this
  · have := h.cells (g := q.g) rfl (q.lost.length + 1) (.int .i64 704) (by rw [List.getElem?_append_right (by omega), hlen]; simp)
    rwa [add_lit, Nat.zero_add] at this

set_option maxRecDepth 100000 in
set_option maxHeartbeats 3200000 in
theorem unpicked_any (B g cap : Nat) (pn : Int) (fv : Value) (ps : List Pk) (qs : List Qk) (w : World) (hq : Qks w B g cap ps qs) (h : Pks w fv ps) (hl : ps.length ≤ 300) (hl2 : ∀ p ∈ ps, p.lost.length ≤ 300) :
    Calls Tryz.prog 66 #[.agg #[.int .i64 pn, .slice (some ⟨g, 0, none⟩) ps.length cap], .agg #[.int .i64 pn, fv]] w fun x w' => x = .returned (.bool true) ∧ Below w.heap.size w w' := by
  obtain ⟨ao, cp, rfl, hc1, hc2⟩ := h.1.shape
  have hcap : ps.length + 1 ≤ cap := by
    rcases hq.row.2 with ⟨h, _⟩ | ⟨_, _, _, h, _, _, hc, _⟩
    · cases h
    · injection h with _ _ h; omega
  have sl := slice39 ⟨g, 0, none⟩ ps.length (ps.length + 1) cap hcap
  rw [show (((ps.length + 1 : Nat)) : Int) = (ps.length : Int) + 1 by omega] at sl
  have hflat := flat_len qcs 2 (fun _ => rfl) qs
  have m0 : w.cell? ⟨g, ps.length * 2, none⟩ = some (.int .i64 705) := by
    have := hq.row.cells (g := g) rfl (ps.length * 2) (.int .i64 705) (by rw [List.getElem?_append_right (by rw [hflat, hq.len]; omega), hflat, hq.len]; simp)
    rwa [add_lit, Nat.zero_add] at this
  have hgl : g < w.heap.size := World.block_lt_of_cell? _ _ m0
  have HQ := hid hq
  have HP := hid h
  have HL2 := hid hl2
  clear hq h hl2 hflat
  have hb0 : Below w.heap.size w ((w.alloc (.cells #[.int .i64 pn, .slice (some ⟨g, 0, none⟩) ps.length cap] 41)).alloc (.cells #[.int .i64 pn, .slice ao ps.length cp] 41)) := ((Below.refl _ _).alloc (Nat.le_refl _) _).alloc (by simp) _
  have hp0 : ((w.alloc (.cells #[.int .i64 pn, .slice (some ⟨g, 0, none⟩) ps.length cap] 41)).alloc (.cells #[.int .i64 pn, .slice ao ps.length cp] 41)).cell? ⟨w.heap.size, 1, none⟩ = some (.slice (some ⟨g, 0, none⟩) ps.length cap) := by simp [go_sem]
  have hp1 : ((w.alloc (.cells #[.int .i64 pn, .slice (some ⟨g, 0, none⟩) ps.length cap] 41)).alloc (.cells #[.int .i64 pn, .slice ao ps.length cp] 41)).cell? ⟨w.heap.size + 1, 1, none⟩ = some (.slice ao ps.length cp) := by simp [go_sem]
  have H0 := hid (And.intro hb0 (And.intro hp0 hp1))
  clear hb0 hp0 hp1
  go_enter Tryz.func66, Tryz.ntmps66
  go_wp2
  go_loopw [6] (fun i wr => ∃ (k : Nat), k ≤ ps.length ∧ i = .int .i64 k ∧ Hid (DN ((w.alloc (.cells #[.int .i64 pn, .slice (some ⟨g, 0, none⟩) ps.length cap] 41)).alloc (.cells #[.int .i64 pn, .slice ao ps.length cp] 41)) wr)) (fun i _ => ps.length - (intOf i).toNat)
  case atStart => exact ⟨0, Nat.zero_le _, by go_num, hid (DN.refl _)⟩
  case round =>
    obtain ⟨k, hk, rfl, HD⟩ := hrel
    by_cases hlt : k < ps.length
    · have hdn := HD.out
      obtain ⟨hb0, hp0, hp1⟩ := H0.out
      have hW : ∀ a v, w.cell? a = some v → wr.cell? a = some v := fun a v h => (hdn.cell a).trans ((hb0.cell (World.block_lt_of_cell? _ _ h)).trans h)
      obtain ⟨b, off, cap', e, -, -, hcell⟩ := Rf.elem (f := pcs) (fun _ => rfl) (by omega) HP.out.1 k hlt
      injection e with e1 e2 e3
      subst e1 e3
      clear e2
      have a1 := (hdn.cell _).trans hp0
      have b1 := (hdn.cell _).trans hp1
      have hkq : k < qs.length := by rw [HQ.out.len]; exact hlt
      have hsame := HQ.out.same k qs[k] ps[k] (by simp [hkq]) (by simp [hlt])
      have hqok := HQ.out.ok qs[k] (List.getElem_mem hkq)
      obtain ⟨x, hxe⟩ : ∃ x, x = ps[k] := ⟨_, rfl⟩
      obtain ⟨q, hqe⟩ : ∃ q, q = qs[k] := ⟨_, rfl⟩
      have hmem := List.getElem_mem hlt
      rw [← hxe] at hcell hmem hsame
      rw [← hqe] at hsame hqok
      have z0 := HQ.out.row.cells (g := g) rfl (k * 2) (.int .i64 q.done) (by rw [List.getElem?_append_left (by rw [flat_len qcs 2 (fun _ => rfl)]; omega), ← Nat.add_zero (k * 2), flat_get qcs 2 (fun _ => rfl) _ _ _ (by omega)]; simp [hkq, ← hqe, qcs])
      have z1 := HQ.out.row.cells (g := g) rfl (k * 2 + 1) (.slice (some ⟨q.g, 0, none⟩) q.lost.length q.cap) (by rw [List.getElem?_append_left (by rw [flat_len qcs 2 (fun _ => rfl)]; omega), flat_get qcs 2 (fun _ => rfl) _ _ _ (by omega)]; simp [hkq, ← hqe, qcs])
      rw [add_lit, Nat.zero_add] at z0 z1
      have hpok := HP.out.2 x hmem
      have hlost := HL2.out x hmem
      obtain ⟨hln2, hcp2, k3, k4⟩ := Qk.ln hqok
      obtain ⟨dn, lv, lost⟩ := x
      obtain ⟨qd, qg, qc, ql⟩ := q
      obtain ⟨s1, s2⟩ := hsame
      dsimp only at s1 s2 z0 z1 hln2 hcp2 k3 k4
      subst s1 s2
      obtain ⟨-, hln, -, -⟩ := hpok
      obtain ⟨a5, q5, e5, d9, d10⟩ := hln.shape
      dsimp only at e5 hlost d9 d10
      subst e5
      have y0 : w.cell? ⟨b, off + k * 2, none⟩ = some (.int .i64 qd) := hcell 0 _ rfl
      have y1 : w.cell? ⟨b, off + k * 2 + 1, none⟩ = some (.slice a5 ql.length q5) := hcell 1 _ rfl
      have x0 := hW _ _ y0
      have x1 := hW _ _ y1
      have u0 := hW _ _ z0
      have u1 := hW _ _ z1
      have t3 := hW _ _ k3
      have t4 := hW _ _ k4
      have sq := slice64 ⟨qg, 0, none⟩ ql.length (ql.length + 2) qc hcp2
      rw [show (((ql.length + 2 : Nat)) : Int) = (ql.length : Int) + 2 by omega] at sq
      have i2 : (k : Int) < (ps.length : Int) := by omega
      have hL1 : ∀ n, Ln (wr.drewN n) (.slice (some ⟨qg, 0, none⟩) ql.length qc) ql := fun n => (by
        obtain ⟨m, rfl⟩ := hdn
        exact hln2.below (below_drewN (below_drewN hb0 m) n))
      have hL2 : ∀ n, Ln (wr.drewN n) (.slice a5 ql.length q5) ql := fun n => (by
        obtain ⟨m, rfl⟩ := hdn
        exact hln.below (below_drewN (below_drewN hb0 m) n))
      have HL := hid (And.intro hL1 hL2)
      clear hcell hmem hln hln2 y0 y1 hxe hqe hW hdn hb0 hp0 hp1 hkq hqok z0 z1 k3 k4 hL1 hL2
      have hcall : ∀ n, Calls Tryz.prog 45 #[.slice (some ⟨qg, 0, none⟩) ql.length qc, .slice a5 ql.length q5] (wr.drewN n) fun e w' => e = .returned (.bool true) ∧ ∃ m, w' = (wr.drewN n).drewN m := fun n => ints_same _ _ ql (wr.drewN n) (HL.out.1 n) (HL.out.2 n) (by omega)
      have HC := hid hcall
      clear hcall
      go_wp2_with fail
      go_quiet ((go_at_call 45; exact Calls.quiet_of (HC.out _)))
      go_wp2
      go_roundw
      case rel => exact ⟨k + 1, by omega, by go_num, hid (HD.out.more _)⟩
      case measure => simp [intOf]; omega
    · have i2 : ¬ (k : Int) < (ps.length : Int) := by omega
      go_wp2
      go_ret
      obtain ⟨m, rfl⟩ := HD.out
      exact ⟨rfl, below_drewN H0.out.1 m⟩

end Go.Proofs.YtlmompdfombgeaaGreat
