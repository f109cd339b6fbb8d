import Derived.Test.YtlmompdfombgeaaGreatK02
import Derived.Test.YtlmompdfombgeaaGreatK01
namespace Go.Proofs.YtlmompdfombgeaaGreat
open Go.RowKit Go.MapKept

theorem Tryz.info121 : (Tryz.prog.info? 121).map (fun i => (i.zero, i.size, i.bytes)) = some (some (.agg #[.string ⟨#[]⟩, .string ⟨#[]⟩, .int .i64 0]), 3, 40) := by kernel_rfl

theorem owns_block {w : World} {B : Nat} {e : TypeId} {size : Nat} {v : Value} {n : Nat} {xs : List Value} (h : w.ownsRow B e size v n xs) : ∀ k, v.ownBlock = some k → ∃ cs, w.heap[k]? = some (.cells cs e (0, 0)) := by
  intro k hk
  rcases h.2 with ⟨rfl, _⟩ | ⟨g, cap, cur, rfl, hb, hg, _⟩
  · simp [Value.ownBlock] at hk
  · simp [Value.ownBlock] at hk
    subst hk
    exact ⟨_, hg⟩

set_option maxRecDepth 100000 in
set_option maxHeartbeats 1000000 in
theorem pend_names (B d : Nat) (frm to : ByteArray) (file : Int) (w : World) (room limit : Int) (L : Value) (made : Int) (Nb : Nat) (F vn : Value) (off : Bool) (st : Int) (k1 : Value) (rd : Int) (k2 : Value) (es : Array MapEntry) (c n : Nat) (xs : List Value) (R : World → Prop)
    (hD : DiskB w d room limit L made (.map (some Nb)) F vn off st k1 rd k2) (hN : w.heap[Nb]? = some (.map es c)) (hB : B ≤ w.heap.size) (hv : w.ownsRow B 121 3 vn n xs) (hn : n ≤ 1000000) (h1 : frm.size ≤ 1000000) (h2 : to.size ≤ 1000000)
    (hdo : ∀ wx : World, wx.heap[Nb]? = some (.map es c) → Calls Tryz.prog 95 #[.agg #[.string frm, .string to, .int .i64 file], .map (some Nb)] wx fun x w' => x = .returned (.tuple #[]) ∧ R w' ∧ Kept (fun k => k = Nb) wx w') :
    Calls Tryz.prog 78 #[.pointer (some ⟨d, 0, none⟩), .agg #[.string frm, .string to, .int .i64 file]] w fun x w' => x = .returned (.tuple #[]) ∧ ∃ vn', DiskB w' d room limit L made (.map (some Nb)) F vn' off st k1 rd k2 ∧ R w' ∧ w'.ownsRow B 121 3 vn' (n + 1) (xs ++ [.string frm, .string to, .int .i64 file]) ∧ Kept (fun k => k = d ∨ k = Nb ∨ vn.ownBlock = some k) w w' ∧ (vn'.ownBlock = vn.ownBlock ∨ ∃ k, w.heap.size ≤ k ∧ vn'.ownBlock = some k) := by
  have hdl := hp_lt hD
  have HD := hid hD
  have HN := hid hN
  have HV := hid hv
  clear hD hN hv
  go_enter Tryz.func78, Tryz.ntmps78
  go_wp2_with fail
  rename_i K hK
  have HR : ∀ wx : World, wx.heap[w.heap.size]? = some (.cells #[.string frm, .string to, .int .i64 file] 121 (0, 0)) → Below w.heap.size w wx →
      K { tmps := #[Value.pointer (some { block := d, off := 0 }), Value.agg #[Value.string frm, Value.string to, Value.int IntKind.i64 file], undef, Value.pointer (some { block := w.heap.size, off := 0 }), Value.pointer (some { block := w.heap.size, off := 0 }), Value.string frm, Value.string frm, Value.pointer (some { block := w.heap.size, off := 1 }), Value.string to, Value.string to, Value.pointer (some { block := w.heap.size, off := 0 }), Value.pointer (some { block := w.heap.size, off := 1 }), undef, undef, undef, undef, undef, undef, undef, undef, undef, undef, undef, undef, undef, undef, undef, undef], defers := [] } wx := by
    intro wx hq hbw
    have hz := hbw.size
    have hql := hp_lt hq
    have hdx : d < wx.heap.size := by omega
    have hD := (show DiskB wx d room limit L made (.map (some Nb)) F vn off st k1 rd k2 from hp_below HD.out hbw hdl)
    have hN := (show wx.heap[Nb]? = some (.map es c) from hp_below HN.out hbw (hp_lt HN.out))
    have hv := ownsRow_kept HV.out (Kept.ofBelow hbw) (fun _ _ h => h)
    obtain ⟨-, -, -, -, c4, -, c6, -⟩ := hD.cells
    have ff := hD.free
    have hnw := World.new_ne wx ⟨d, 6, none⟩ c6
    have q0 : wx.cell? ⟨w.heap.size, 0, none⟩ = some (.string frm) := by rw [cell_of_row wx _ 0 _ _ _ hq]; rfl
    have q1 : wx.cell? ⟨w.heap.size, 1, none⟩ = some (.string to) := by rw [cell_of_row wx _ 1 _ _ _ hq]; rfl
    have q2 : wx.cell? ⟨w.heap.size, 2, none⟩ = some (.int .i64 file) := by rw [cell_of_row wx _ 2 _ _ _ hq]; rfl
    have hvd : vn.ownBlock ≠ some d := fun e => by
      obtain ⟨cs, h⟩ := owns_block hv d e
      exact hp_ne hD h (by simp) rfl
    have hvn : vn.ownBlock ≠ some Nb := fun e => by
      obtain ⟨cs, h⟩ := owns_block hv Nb e
      exact hp_ne hN h (by simp) rfl
    have hvl : vn.ownBlock ≠ some w.heap.size := fun e => by have := (HV.out.lt _ e).2; omega
    obtain ⟨i0, hi, hz0, hz1, hz2⟩ := info_parts Tryz.info121
    apply hK
    have HQ := hid (And.intro hq (And.intro hbw (And.intro hD (And.intro hN hv))))
    clear hq hbw hD hN hK
    go_wp2_with fail
    go_region_law
      ((refine step_append_lies _ (by rfl) _ _ _ (by rfl) B 121 i0 _ 3 40 Tryz.underlying48 hi hz0 hz1 hz2 rfl (by omega) vn n xs (by rfl) ((hv.alloc _).drew)
          ⟨wx.heap.size, 0, none⟩ 1 1 [.string frm, .string to, .int .i64 file] (by rfl) (by rfl) (World.news_of_block (cs := #[.string frm, .string to, .int .i64 file]) (t := 121) (fr := (0, 0)) (heap_alloc_new wx _)) (by simp [Value.oneCell'])
          (by omega) (by unfold maxLen; omega) (by omega) (by simp; omega) (wx.heap.size + 1) (by simp) ?_; intro gg cap w1 hown1 hgrow hat hlt; have f1 := (hgrow.frozen_far ⟨d, 6, none⟩ (by simp; omega) (Ne.symm hvd)).trans ((frozen?_alloc_cells _ _ _ _).trans (ff 6)); have c2 := (hgrow.cell_far ⟨d, 6, none⟩ (by simp; omega) (Ne.symm hvd)).trans ((World.cell?_alloc_past _ _ _ (by first | omega | (simp; omega))).trans c6)))
    all_goals
      obtain ⟨hq, hbw, hD, hN, hv0⟩ := HQ.out
      have hnl := hp_lt hN
      have hq1 := (hgrow.block w.heap.size (by simp; omega) (Ne.symm hvl)).trans (hp_alloc hq _)
      have hN1 := (hgrow.block Nb (by simp; omega) (Ne.symm hvn)).trans (hp_alloc hN _)
      have hD1 := (hgrow.block d (by simp; omega) (Ne.symm hvd)).trans (hp_alloc hD _)
      have hgd : gg ≠ d := by
        intro e
        rcases hat with h | h
        · rw [e] at h; exact hvd h
        · omega
      have hD2 : DiskB (w1.setCell ⟨d, 6, none⟩ (.slice (some ⟨gg, 0, none⟩) (n + 1) cap)) d room limit L made (.map (some Nb)) F (.slice (some ⟨gg, 0, none⟩) (n + 1) cap) off st k1 rd k2 := set_block hD1 _
      have hN2 := hp_set hN1 (p := ⟨d, 6, none⟩) (fun e => hp_ne hD1 hN1 (by simp) e.symm) (.slice (some ⟨gg, 0, none⟩) (n + 1) cap)
      have hq2 := hp_set hq1 (p := ⟨d, 6, none⟩) (show w.heap.size ≠ d by omega) (.slice (some ⟨gg, 0, none⟩) (n + 1) cap)
      have hk3 : Kept (fun k => k = d ∨ k = Nb ∨ vn.ownBlock = some k) w w1 := by
        refine Kept.trans (S' := fun k => vn.ownBlock = some k) ((Kept.ofBelow hbw).mono (S' := fun k => k = d ∨ k = Nb ∨ vn.ownBlock = some k) (fun _ _ h => h.elim)) ?_ (fun i _ e => .inr (.inr e))
        exact (Kept.grown (((Kept.refl _ wx).alloc _).drew) hgrow (fun k _ e => e))
      have hk4 : Kept (fun k => k = d ∨ k = Nb ∨ vn.ownBlock = some k) w (w1.setCell ⟨d, 6, none⟩ (.slice (some ⟨gg, 0, none⟩) (n + 1) cap)) := hk3.setCell (p := ⟨d, 6, none⟩) (fun _ => .inl rfl) _
      have ho4 : (w1.setCell ⟨d, 6, none⟩ (.slice (some ⟨gg, 0, none⟩) (n + 1) cap)).ownsRow B 121 3 (.slice (some ⟨gg, 0, none⟩) (n + 1) cap) (n + 1) (xs ++ [.string frm, .string to, .int .i64 file]) :=
        ownsRow_kept hown1 ((Kept.refl (fun k => k = d) w1).setCell (p := ⟨d, 6, none⟩) (fun _ => rfl) _) (by intro k hk e; simp [Value.ownBlock] at hk; omega)
      have HAT : Hid ((Value.slice (some ⟨gg, 0, none⟩) (n + 1) cap).ownBlock = vn.ownBlock ∨ ∃ k, w.heap.size ≤ k ∧ (Value.slice (some ⟨gg, 0, none⟩) (n + 1) cap).ownBlock = some k) := hid (by
        rcases hat with h | h
        · exact .inl h.symm
        · exact .inr ⟨gg, by omega, rfl⟩)
      obtain ⟨W, hW⟩ : ∃ W, W = w1.setCell ⟨d, 6, none⟩ (.slice (some ⟨gg, 0, none⟩) (n + 1) cap) := ⟨_, rfl⟩
      rw [← hW] at hD2 hN2 hq2 hk4 ho4 ⊢
      clear hW hk3 hq1 hN1 hD1 hq hbw hD hN hv0 HQ hgrow hown1 f1 c2 c4 c6 q0 q1 q2 ff hv hnw
      obtain ⟨-, -, -, -, e4, -⟩ := hD2.cells
      have q0 : W.cell? ⟨w.heap.size, 0, none⟩ = some (.string frm) := by rw [cell_of_row W _ 0 _ _ _ hq2]; rfl
      have q1 : W.cell? ⟨w.heap.size, 1, none⟩ = some (.string to) := by rw [cell_of_row W _ 1 _ _ _ hq2]; rfl
      have q2 : W.cell? ⟨w.heap.size, 2, none⟩ = some (.int .i64 file) := by rw [cell_of_row W _ 2 _ _ _ hq2]; rfl
      have HQ := hid (And.intro hq2 (And.intro hD2 (And.intro hN2 (And.intro hk4 ho4))))
      clear hq2 hD2 hN2 hk4 ho4
      go_wp2_with fail
      go_region_with (
        go_at_call 95
        refine (hdo W.drew HQ.out.2.2.1).mono ?_
        rintro e w2 ⟨rfl, hN5, hk5⟩
        have HX := hid (And.intro hN5 hk5)
        clear hN5 hk5)
      all_goals
        go_wp2
        go_end0
        obtain ⟨hq2, hD2, hN2, hk4, ho4⟩ := HQ.out
        obtain ⟨hN5, hk5⟩ := HX.out
        have hk6 : Kept (fun k => k = Nb) W w2 := ⟨hk5.os, hk5.tape, hk5.output, hk5.size, hk5.block⟩
        refine ⟨rfl, _, hp_kept hD2 hk6 (fun e => hp_ne hD2 hN2 (by simp) e), hN5, ownsRow_kept ho4 hk6 (fun k hk e => ?_), hk4.trans hk6 (fun i _ e => .inr (.inl e)), HAT.out⟩
        obtain ⟨cs, h⟩ := owns_block ho4 k hk
        rw [e] at h
        exact hp_ne hN2 h (by simp) rfl
  clear hK
  go_region_with (
    go_at_call 92
    first
    | (refine (strClone_any frm _ (by omega)).mono ?_
       rintro e w1 ⟨rfl, hb⟩
       have hz : w.heap.size < w1.heap.size := (by have := hb.size; (try simp at this); omega)
       have a0 := hb.cell (p := ⟨w.heap.size, 0, none⟩) (by first | omega | (simp; try omega))
       have a1 := hb.cell (p := ⟨w.heap.size, 1, none⟩) (by first | omega | (simp; try omega))
       have b0 := hb.frozen (p := ⟨w.heap.size, 0, none⟩) (by first | omega | (simp; try omega))
       have b1 := hb.frozen (p := ⟨w.heap.size, 1, none⟩) (by first | omega | (simp; try omega))
       have HB1 := hid hb
       clear hb)
    | (refine (strClone_any to _ (by omega)).mono ?_
       rintro e w2 ⟨rfl, hb⟩
       have hz2 : w.heap.size < w2.heap.size := (by have := hb.size; (try simp at this); omega)
       have a0' := hb.cell (p := ⟨w.heap.size, 0, none⟩) (by first | omega | (simp; try omega))
       have a1' := hb.cell (p := ⟨w.heap.size, 1, none⟩) (by first | omega | (simp; try omega))
       have b0' := hb.frozen (p := ⟨w.heap.size, 0, none⟩) (by first | omega | (simp; try omega))
       have b1' := hb.frozen (p := ⟨w.heap.size, 1, none⟩) (by first | omega | (simp; try omega))
       have HB2 := hid hb
       clear hb))
  all_goals
    refine HR _ ?_ ?_
    · have h0 := hp_new w (Obj.cells #[Value.string frm, Value.string to, Value.int IntKind.i64 file] 121)
      have h1 := hp_below (hp_below h0 (undrew HB1.out) (by simp)) HB2.out (by first | omega | simp)
      have h2 := set_block (i := 1) (set_block (i := 0) h1 (Value.string frm)) (Value.string to)
      simpa using h2
    · have hb1 := undrew HB1.out
      have hb2 := HB2.out
      have hz1 := hb1.size
      have e1 : (w.alloc (Obj.cells #[Value.string frm, Value.string to, Value.int IntKind.i64 file] 121)).drew.heap.size = w.heap.size + 1 := by simp
      rw [e1] at hb1
      have hb3 : Below w.heap.size w w2 := (((Below.refl _ w).alloc (Nat.le_refl _) _).trans (hb1.mono (by omega))).trans (hb2.mono (by omega))
      exact (hb3.setCell (p := ⟨w.heap.size, 0, none⟩) (Nat.le_refl _) _).setCell (p := ⟨w.heap.size, 1, none⟩) (Nat.le_refl _) _

end Go.Proofs.YtlmompdfombgeaaGreat

namespace Go.Proofs.YtlmompdfombgeaaGreat
open Go.RowKit

theorem own_ne {w : World} {B B' : Nat} {e e' : TypeId} {s s' : Nat} {v v' : Value} {n n' : Nat} {xs xs' : List Value} (h : w.ownsRow B e s v n xs) (h' : w.ownsRow B' e' s' v' n' xs') (hne : e ≠ e') : ∀ k, v.ownBlock = some k → v'.ownBlock ≠ some k := by
  intro k h1 h2
  obtain ⟨cs, a⟩ := owns_block h k h1
  obtain ⟨cs', b⟩ := owns_block h' k h2
  rw [a] at b
  injection b with b
  injection b with b1 b2
  exact hne b2

theorem own_ne_blk {w : World} {B : Nat} {e : TypeId} {s : Nat} {v : Value} {n : Nat} {xs : List Value} (h : w.ownsRow B e s v n xs) {k : Nat} {cs : Array Value} {t : TypeId} {fr : Nat × Nat} (hb : w.heap[k]? = some (.cells cs t fr)) (hne : e ≠ t) : v.ownBlock ≠ some k := by
  intro h1
  obtain ⟨cs', a⟩ := owns_block h k h1
  rw [a] at hb
  injection hb with b
  injection b with b1 b2
  exact hne b2

set_option maxRecDepth 100000 in
set_option maxHeartbeats 1600000 in
theorem doApp_any (B : Nat) (av vd vf : Value) (ys xs : List Int) (fs : List Bool) (w : World) (ha : Sn w av ys) (hd : w.ownsRow B 5 1 vd xs.length (B8 xs)) (hf : w.ownsRow B 4 1 vf fs.length (BB fs)) (hB : B ≤ w.heap.size) (hl : xs.length ≤ 1000000000) (hl2 : ys.length ≤ 1000000000) (hl3 : fs.length ≤ 1000000000) :
    Calls Tryz.prog 189 #[av, .agg #[vd, vf]] w fun x w' => ∃ vd' vf', x = .returned (.agg #[vd', vf']) ∧ w'.ownsRow B 5 1 vd' (xs ++ ys).length (B8 (xs ++ ys)) ∧ w'.ownsRow B 4 1 vf' (fs ++ List.replicate ys.length true).length (BB (fs ++ List.replicate ys.length true)) ∧
      (vd'.ownBlock = vd.ownBlock ∨ ∃ k, w.heap.size ≤ k ∧ vd'.ownBlock = some k) ∧ (vf'.ownBlock = vf.ownBlock ∨ ∃ k, w.heap.size ≤ k ∧ vf'.ownBlock = some k) ∧ Kept (fun k => vd.ownBlock = some k ∨ vf.ownBlock = some k) w w' := by
  obtain ⟨ia, hia, hza0, hza1, hza2⟩ := info_parts Tryz.info4
  have hdl := fun k h => (hd.lt k h).2
  have hfl := fun k h => (hf.lt k h).2
  obtain ⟨⟨ao, cap, rfl, hc, hx⟩, hsh⟩ := id ha
  obtain ⟨ad, cd, rfl⟩ := own_shape hd
  obtain ⟨af, cf, rfl⟩ := own_shape hf
  have HA := hid ha
  have HD := hid hd
  have HF := hid hf
  clear ha hd hf hx hc hsh
  go_enter Tryz.func189, Tryz.ntmps189
  go_wp2_with (first
    | (at_builtin; go_loud (
       refine wpList_append_sn _ rfl _ _ 124 5 Tryz.underlying124 rfl B _ xs.length xs rfl (ownsRow_kept HD.out (((Kept.refl (fun _ => False) w).alloc _).alloc _) (fun _ _ h => h)) _ ys rfl ((HA.out.alloc _).alloc _) (by omega) (by simp; omega) ?_
       intro ae ce w1 ho1 hg1 hw1
       have b0 := hg1.out.cell_far ⟨w.heap.size, 0, none⟩ (by simp; omega) (fun e => Nat.lt_irrefl _ (hdl _ e.symm))
       have b1 := hg1.out.cell_far ⟨w.heap.size, 1, none⟩ (by simp; omega) (fun e => Nat.lt_irrefl _ (hdl _ e.symm))
       have f0 := hg1.out.frozen_far ⟨w.heap.size, 0, none⟩ (by simp; omega) (fun e => Nat.lt_irrefl _ (hdl _ e.symm))
       have hz : w.heap.size + 1 < w1.heap.size := (by have := hg1.out.size; simp at this; omega))))
  have hW0 : (w1.setCell ⟨w.heap.size, 0, none⟩ (.slice ae (xs.length + ys.length) ce)).heap[w.heap.size]? = some (.cells #[.slice ae (xs.length + ys.length) ce, .slice af fs.length cf] 109 (0, 0)) := by
    have h0 := hp_alloc (hp_new w (.cells #[.slice ad xs.length cd, .slice af fs.length cf] 109)) (.cells #[.slice none 0 0, .slice none 0 0] 109)
    have h1 := (hg1.out.block w.heap.size (by simp; omega) (fun e => Nat.lt_irrefl _ (hdl _ e.symm))).trans h0
    exact set_block (i := 0) h1 _
  have hW1 : (w1.setCell ⟨w.heap.size, 0, none⟩ (.slice ae (xs.length + ys.length) ce)).heap[w.heap.size + 1]? = some (.cells #[.slice none 0 0, .slice none 0 0] 109 (0, 0)) := by
    have h0 := hp_new (w.alloc (.cells #[.slice ad xs.length cd, .slice af fs.length cf] 109)) (.cells #[.slice none 0 0, .slice none 0 0] 109)
    have e1 : (w.alloc (.cells #[.slice ad xs.length cd, .slice af fs.length cf] 109)).heap.size = w.heap.size + 1 := by simp
    rw [e1] at h0
    have h1 := (hg1.out.block (w.heap.size + 1) (by simp) (fun e => by have := hdl _ e.symm; omega)).trans h0
    exact hp_set h1 (by simp) _
  have hK1 : Kept (fun k => (Value.slice ad xs.length cd).ownBlock = some k ∨ (Value.slice af fs.length cf).ownBlock = some k) w (w1.setCell ⟨w.heap.size, 0, none⟩ (.slice ae (xs.length + ys.length) ce)) :=
    ((((Kept.refl _ w).alloc _).alloc _).grown hg1.out (fun k _ e => .inl e)).setCell (p := ⟨w.heap.size, 0, none⟩) (fun h => absurd h (Nat.lt_irrefl _)) _
  have hV1 : (Value.slice ae (xs.length + ys.length) ce).ownBlock = (Value.slice ad xs.length cd).ownBlock ∨ ∃ k, w.heap.size + 2 ≤ k ∧ (Value.slice ae (xs.length + ys.length) ce).ownBlock = some k := by
    rcases hw1.out with h | h
    · exact .inl h
    · exact .inr ⟨_, by simp, h⟩
  have hset : Kept (fun k => k = w.heap.size) w1 (w1.setCell ⟨w.heap.size, 0, none⟩ (.slice ae (xs.length + ys.length) ce)) := (Kept.refl (fun k => k = w.heap.size) w1).setCell (p := ⟨w.heap.size, 0, none⟩) (fun _ => rfl) _
  have hO1 := ownsRow_kept ho1.out hset (by
    intro k hk e
    rcases hV1 with h | ⟨j, h1, h2⟩
    · rw [h] at hk; have := hdl _ hk; omega
    · rw [h2] at hk; injection hk with hk; omega)
  have hOf0 : w1.ownsRow B 4 1 (.slice af fs.length cf) fs.length (BB fs) := by
    have q := ownsRow_kept HF.out (((Kept.refl (fun _ => False) w).alloc (.cells #[.slice ad xs.length cd, .slice af fs.length cf] 109)).alloc (.cells #[.slice none 0 0, .slice none 0 0] 109)) (fun _ _ h => h)
    refine ownsRow_kept q (S := fun k => (Value.slice ad xs.length cd).ownBlock = some k) ((Kept.refl _ _).grown hg1.out (fun k _ e => e)) ?_
    intro k hk e
    exact own_ne HF.out HD.out (by decide) k hk e
  have hOf := ownsRow_kept hOf0 hset (by intro k hk e; have := hfl _ hk; omega)
  obtain ⟨W, hW⟩ : ∃ W, W = w1.setCell ⟨w.heap.size, 0, none⟩ (.slice ae (xs.length + ys.length) ce) := ⟨_, rfl⟩
  obtain ⟨V1, hV⟩ : ∃ V1, V1 = Value.slice ae (xs.length + ys.length) ce := ⟨_, rfl⟩
  rw [← hW] at hW0 hW1 hK1 hO1 hOf ⊢
  rw [← hV] at hW0 hO1 hV1 ⊢
  have hcell : V1.cells = #[V1] := by rw [hV]; rfl
  have HI := hid (And.intro hW0 (And.intro hW1 (And.intro hK1 (And.intro hV1 (And.intro hO1 hOf)))))
  clear hW hW0 hW1 hK1 hV1 hset hO1 hOf0 hOf ho1 hg1 hw1 b0 b1 f0 hz hV
  go_loopw [12] (fun i wr => ∃ (k : Nat) (vk : Value), k ≤ ys.length ∧ i = .int .i64 k ∧ wr.heap[w.heap.size]? = some (.cells #[V1, vk] 109 (0, 0)) ∧ wr.heap[w.heap.size + 1]? = some (.cells #[.slice none 0 0, .slice none 0 0] 109 (0, 0)) ∧
      wr.ownsRow B 5 1 V1 (xs.length + ys.length) (B8 (xs ++ ys)) ∧ wr.ownsRow B 4 1 vk (fs.length + k) (BB (fs ++ List.replicate k true)) ∧ (vk.ownBlock = (Value.slice af fs.length cf).ownBlock ∨ ∃ j, w.heap.size + 2 ≤ j ∧ vk.ownBlock = some j) ∧
      Kept (fun k => (Value.slice ad xs.length cd).ownBlock = some k ∨ (Value.slice af fs.length cf).ownBlock = some k) w wr) (fun i _ => ys.length - (intOf i).toNat)
  case atStart =>
    obtain ⟨hW0, hW1, hK1, hV1, hO1, hOf⟩ := HI.out
    exact ⟨0, _, Nat.zero_le _, rfl, hW0, hW1, hO1, by simpa using hOf, .inl rfl, hK1⟩
  case round =>
    obtain ⟨k, vk, hk, rfl, hb0, hb1, ho, hof, hloc, hkp⟩ := hrel
    have hsz := hkp.size
    have l0 := hp_lt hb0
    have l1 := hp_lt hb1
    have q0 : wr.cell? ⟨w.heap.size, 0, none⟩ = some V1 := by rw [cell_of_row wr _ 0 _ _ _ hb0]; rfl
    have q1 : wr.cell? ⟨w.heap.size, 1, none⟩ = some vk := by rw [cell_of_row wr _ 1 _ _ _ hb0]; rfl
    have ff : ∀ o, wr.frozen? ⟨w.heap.size, o, none⟩ = false := fun o => free_of_block hb0
    have hvk : vk.ownBlock ≠ some w.heap.size := own_ne_blk hof hb0 (by decide)
    have hvk1 : vk.ownBlock ≠ some (w.heap.size + 1) := own_ne_blk hof hb1 (by decide)
    have hlen : (fs ++ List.replicate k true).length = fs.length + k := by simp
    by_cases hlt : k < ys.length
    · have HH := hid (And.intro hb0 (And.intro hb1 (And.intro ho (And.intro hloc hkp))))
      have HO := hid hof
      clear hb0 hb1 ho hof hloc hkp HI
      go_wp2_with (first
        | (at_builtin
           refine wpList_append_lies _ rfl _ _ 107 rfl B 4 ia _ 1 1 Tryz.underlying107 hia hza0 hza1 hza2 rfl (by omega) vk (fs.length + k) (BB (fs ++ List.replicate k true)) rfl (HO.out.alloc _) ⟨wr.heap.size, 0, none⟩ 1 1 [.bool true] rfl rfl (World.news_of_block (cs := #[.bool true]) (t := 4) (fr := (0, 0)) (heap_alloc_new wr _)) (by simp [Value.oneCell']) (by omega) (by unfold maxLen; omega) (by omega) (by simp; omega) (wr.heap.size + 1) (by simp) ?_
           intro gg cp w2 hown hgrow hat hgl
           have b1 := (hgrow.cell_far ⟨w.heap.size, 1, none⟩ (by simp; omega) (Ne.symm hvk)).trans ((World.cell?_alloc_past _ _ _ (by simpa using l0)).trans q1)
           have f1 := (hgrow.frozen_far ⟨w.heap.size, 1, none⟩ (by simp; omega) (Ne.symm hvk)).trans ((frozen?_alloc_cells _ _ _ _).trans (ff 1))
           have HG := hid (And.intro hown (And.intro hgrow hat))
           clear hown hgrow hat))
      go_roundw
      case rel =>
        obtain ⟨hb0, hb1, ho, hloc, hkp⟩ := HH.out
        obtain ⟨hown, hgrow, hat⟩ := HG.out
        have g0 := (hgrow.block w.heap.size (by simp; omega) (Ne.symm hvk)).trans (hp_alloc hb0 _)
        have g1 := (hgrow.block (w.heap.size + 1) (by simp; omega) (Ne.symm hvk1)).trans (hp_alloc hb1 _)
        have hgd : gg ≠ w.heap.size ∧ w.heap.size ≤ gg → True := fun _ => trivial
        have hgg : (Value.slice (some ⟨gg, 0, none⟩) (fs.length + k + 1) cp).ownBlock ≠ some w.heap.size := by
          intro e
          simp [Value.ownBlock] at e
          rcases hat with h | h
          · rw [e] at h; exact hvk h
          · omega
        have hst : Kept (fun k => k = w.heap.size) w2 (w2.setCell ⟨w.heap.size, 1, none⟩ (.slice (some ⟨gg, 0, none⟩) (fs.length + k + 1) cp)) := (Kept.refl (fun k => k = w.heap.size) w2).setCell (p := ⟨w.heap.size, 1, none⟩) (fun _ => rfl) _
        have hkg : Kept (fun k => vk.ownBlock = some k) wr w2 := ((Kept.refl _ wr).alloc _).grown hgrow (fun k _ e => e)
        refine ⟨k + 1, _, by omega, by go_num, set_block (i := 1) g0 _, hp_set g1 (by simp) _, ?_, ?_, ?_, ?_⟩
        · refine ownsRow_kept (ownsRow_kept ho hkg (fun j hj e => own_ne ho HO.out (by decide) j hj e)) hst ?_
          intro j hj e
          subst e
          exact own_ne_blk ho hb0 (by decide) hj
        · have e2 : BB (fs ++ List.replicate (k + 1) true) = BB (fs ++ List.replicate k true) ++ [.bool true] := by simp [BB, List.replicate_succ']
          rw [e2]
          exact ownsRow_kept hown hst (fun j hj e => by subst e; exact hgg hj)
        · rcases hat with h | h
          · rcases hloc with h2 | ⟨j, h2, h3⟩
            · exact .inl (h.symm.trans h2)
            · refine .inr ⟨j, h2, ?_⟩
              rw [h3] at h
              exact h.symm
          · exact .inr ⟨gg, by omega, rfl⟩
        · refine (hkp.trans hkg ?_).setCell (p := ⟨w.heap.size, 1, none⟩) (fun h => absurd h (Nat.lt_irrefl _)) _
          intro i hi e
          rcases hloc with h2 | ⟨j, h2, h3⟩
          · exact .inr (h2.symm.trans e)
          · rw [h3] at e; injection e with e; omega
      case measure => simp [intOf]; omega
    · obtain rfl : k = ys.length := by omega
      have r0 : wr.cell? ⟨w.heap.size + 1, 0, none⟩ = some (.slice none 0 0) := by rw [cell_of_row wr _ 0 _ _ _ hb1]; rfl
      have r1 : wr.cell? ⟨w.heap.size + 1, 1, none⟩ = some (.slice none 0 0) := by rw [cell_of_row wr _ 1 _ _ _ hb1]; rfl
      have fr : ∀ o, wr.frozen? ⟨w.heap.size + 1, o, none⟩ = false := fun o => free_of_block hb1
      obtain ⟨avk, cvk, rfl⟩ := own_shape hof
      obtain ⟨aV, cV, rfl⟩ := own_shape ho
      have HH := hid (And.intro hb0 (And.intro hb1 (And.intro ho (And.intro hof (And.intro hloc hkp)))))
      clear hb0 hb1 ho hof hloc hkp
      go_wp2
      obtain ⟨hb0, hb1, ho, hof, hloc, hkp⟩ := HH.out
      have hst : Kept (fun k => k = w.heap.size + 1) wr ((wr.setCell ⟨w.heap.size + 1, 0, none⟩ (.slice aV (xs.length + ys.length) cV)).setCell ⟨w.heap.size + 1, 1, none⟩ (.slice avk (fs.length + ys.length) cvk)) := ((Kept.refl (fun k => k = w.heap.size + 1) wr).setCell (p := ⟨w.heap.size + 1, 0, none⟩) (fun _ => rfl) _).setCell (p := ⟨w.heap.size + 1, 1, none⟩) (fun _ => rfl) _
      refine bodyPost_ret (v := .agg #[.slice aV (xs.length + ys.length) cV, .slice avk (fs.length + ys.length) cvk]) (by simp [results, Tryz.results189, go_sem, r0, r1]) rfl ⟨_, _, rfl, ?_, ?_, ?_, ?_, ?_⟩
      · have := ownsRow_kept ho hst (fun j hj e => by subst e; exact own_ne_blk ho hb1 (by decide) hj)
        simpa using this
      · have := ownsRow_kept hof hst (fun j hj e => by subst e; exact hvk1 hj)
        simpa using this
      · rcases HI.out.2.2.2.1 with h | ⟨j, h1, h2⟩
        · exact .inl h
        · exact .inr ⟨j, by omega, h2⟩
      · rcases hloc with h | ⟨j, h1, h2⟩
        · exact .inl h
        · exact .inr ⟨j, by omega, h2⟩
      · exact hkp.trans hst (fun i hi e => by omega)

end Go.Proofs.YtlmompdfombgeaaGreat

namespace Go.Proofs.YtlmompdfombgeaaGreat
open Go.RowKit

theorem cells5 {w : World} {p : Nat} {a b c d e : Value} {t : TypeId} (h : w.heap[p]? = some (.cells #[a, b, c, d, e] t (0, 0))) : w.cell? ⟨p, 0, none⟩ = some a ∧ w.cell? ⟨p, 1, none⟩ = some b ∧ w.cell? ⟨p, 2, none⟩ = some c ∧ w.cell? ⟨p, 3, none⟩ = some d ∧ w.cell? ⟨p, 4, none⟩ = some e := by
  refine ⟨?_, ?_, ?_, ?_, ?_⟩ <;> (rw [cell_of_row w p _ _ _ _ h]; rfl)

theorem nilAhead124 (sv : Value) (w : World) : (nilAhead 331 124 sv "treadle/disk.do").run Tryz.prog w = .ok (some false) w := by kernel_rfl

theorem method124 (sv : Value) (w : World) : (method 331 124 sv "treadle/disk.do").run Tryz.prog w = .ok (189, sv) w := by kernel_rfl

set_option maxRecDepth 100000 in
set_option maxHeartbeats 1600000 in
theorem pendApp_any (B p : Nat) (sv : Value) (ys : List Int) (w : World) (safe : List Int) (pend : List Value) (data : List Int) (fresh : List Bool) (peak : Int) (vs vp vd vf : Value) (h : FileAt w B p safe pend data fresh peak vs vp vd vf) (hs : Sn w sv ys) (hB : B ≤ w.heap.size)
    (l1 : pend.length ≤ 1000000) (l2 : data.length ≤ 100000000) (l3 : fresh.length ≤ 100000000) (l4 : ys.length ≤ 100000000) (_hp0 : 0 ≤ peak) (_hp1 : peak ≤ 1000000000) (hsb : ∀ k, sv.ownBlock = some k → k ≠ p ∧ vp.ownBlock ≠ some k) :
    Calls Tryz.prog 81 #[.pointer (some ⟨p, 0, none⟩), .iface 124 sv] w fun x w' => x = .returned (.tuple #[]) ∧ ∃ vp' vd' vf', FileAt w' B p safe (pend ++ [.iface 124 sv]) (data ++ ys) (fresh ++ List.replicate ys.length true) (max peak (data ++ ys).length) vs vp' vd' vf' ∧
      (vd'.ownBlock = vd.ownBlock ∨ ∃ k, w.heap.size ≤ k ∧ vd'.ownBlock = some k) ∧ Kept (fun k => k = p ∨ vp.ownBlock = some k ∨ vd.ownBlock = some k ∨ vf.ownBlock = some k) w w' ∧ (vp'.ownBlock = vp.ownBlock ∨ ∃ k, w.heap.size ≤ k ∧ vp'.ownBlock = some k) ∧ (vf'.ownBlock = vf.ownBlock ∨ ∃ k, w.heap.size ≤ k ∧ vf'.ownBlock = some k) := by
  obtain ⟨c0, c1, c2, c3, c4⟩ := cells5 h.blk
  have ff : ∀ o, w.frozen? ⟨p, o, none⟩ = false := fun o => free_of_block h.blk
  obtain ⟨ii, hii, hz0, hz1, hz2⟩ := info_parts Tryz.info171
  have hvp : vp.ownBlock ≠ some p := own_ne_blk h.op h.blk (by decide)
  have hvd : vd.ownBlock ≠ some p := own_ne_blk h.od h.blk (by decide)
  have hvf : vf.ownBlock ≠ some p := own_ne_blk h.of h.blk (by decide)
  have hvs : vs.ownBlock ≠ some p := own_ne_blk h.os h.blk (by decide)
  have hpl := hp_lt h.blk
  have hnw := World.new_ne w ⟨p, 1, none⟩ c1
  have H := hid h
  have HS := hid hs
  obtain ⟨ap, cp, rfl⟩ := own_shape h.op
  obtain ⟨ad, cd, rfl⟩ := own_shape h.od
  obtain ⟨af, cf, rfl⟩ := own_shape h.of
  clear h hs
  go_enter Tryz.func81, Tryz.ntmps81
  go_wp2_with (first
    | (at_builtin; go_loud (
       refine wpList_append_lies _ rfl _ _ 110 rfl B 171 ii _ 1 16 Tryz.underlying110 hii hz0 hz1 hz2 rfl (by omega) _ pend.length pend rfl (H.out.op.alloc _) ⟨w.heap.size, 0, none⟩ 1 1 [.iface 124 sv] rfl rfl (World.news_of_block (cs := #[.iface 124 sv]) (t := 171) (fr := (0, 0)) (heap_alloc_new w _)) (by simp [Value.oneCell']) (by omega) (by unfold maxLen; omega) (by omega) (by simp; omega) (w.heap.size + 1) (by simp) ?_
       intro gg cq w1 hown hgrow hat hgl
       have b1 := (hgrow.cell_far ⟨p, 1, none⟩ (by simp; omega) (Ne.symm hvp)).trans ((World.cell?_alloc_past _ _ _ (by simpa using hpl)).trans c1)
       have f1 := (hgrow.frozen_far ⟨p, 1, none⟩ (by simp; omega) (Ne.symm hvp)).trans ((frozen?_alloc_cells _ _ _ _).trans (ff 1))
       have HG := hid (And.intro hown (And.intro hgrow hat))
       clear hown hgrow hat)))
  have hfile : FileAt (w1.setCell ⟨p, 1, none⟩ (.slice (some ⟨gg, 0, none⟩) (pend.length + 1) cq)) B p safe (pend ++ [.iface 124 sv]) data fresh peak vs (.slice (some ⟨gg, 0, none⟩) (pend.length + 1) cq) (.slice ad data.length cd) (.slice af fresh.length cf) ∧ Sn (w1.setCell ⟨p, 1, none⟩ (.slice (some ⟨gg, 0, none⟩) (pend.length + 1) cq)) sv ys ∧ Kept (fun k => k = p ∨ (Value.slice ap pend.length cp).ownBlock = some k) w (w1.setCell ⟨p, 1, none⟩ (.slice (some ⟨gg, 0, none⟩) (pend.length + 1) cq)) ∧ ((Value.slice (some ⟨gg, 0, none⟩) (pend.length + 1) cq).ownBlock = (Value.slice ap pend.length cp).ownBlock ∨ ∃ k, w.heap.size ≤ k ∧ (Value.slice (some ⟨gg, 0, none⟩) (pend.length + 1) cq).ownBlock = some k) := by
    obtain ⟨hown, hgrow, hat⟩ := HG.out
    have h := H.out
    have g0 := (hgrow.block p (by simp; omega) (Ne.symm hvp)).trans (hp_alloc h.blk _)
    have K0 : Kept (fun k => (Value.slice ap pend.length cp).ownBlock = some k) w w1 := ((Kept.refl _ w).alloc _).grown hgrow (fun k _ e => e)
    have K1 : Kept (fun k => k = p) w1 (w1.setCell ⟨p, 1, none⟩ (.slice (some ⟨gg, 0, none⟩) (pend.length + 1) cq)) := (Kept.refl (fun k => k = p) w1).setCell (p := ⟨p, 1, none⟩) (fun _ => rfl) _
    have hgp : gg ≠ p := by
      intro e
      rcases hat with h | h
      · rw [e] at h; exact hvp h
      · omega
    refine ⟨⟨set_block (i := 1) g0 _, ?_, ?_, ?_, ?_, h.sep⟩, ?_, ?_, ?_⟩
    · exact ownsRow_kept (ownsRow_kept h.os K0 (fun k hk e => own_ne h.os h.op (by decide) k hk e)) K1 (fun k hk e => by subst e; exact hvs hk)
    · have := ownsRow_kept hown K1 (fun k hk e => by simp [Value.ownBlock] at hk; omega)
      simpa using this
    · exact ownsRow_kept (ownsRow_kept h.od K0 (fun k hk e => own_ne h.od h.op (by decide) k hk e)) K1 (fun k hk e => by subst e; exact hvd hk)
    · exact ownsRow_kept (ownsRow_kept h.of K0 (fun k hk e => own_ne h.of h.op (by decide) k hk e)) K1 (fun k hk e => by subst e; exact hvf hk)
    · exact (HS.out.kept K0 (fun k hk e => (hsb k hk).2 e)).kept K1 (fun k hk e => (hsb k hk).1 e)
    · exact (K0.mono (fun i _ e => .inr e)).trans K1 (fun i _ e => .inl e)
    · rcases hat with h | h
      · exact .inl h.symm
      · exact .inr ⟨gg, by omega, rfl⟩
  obtain ⟨W, hW⟩ : ∃ W, W = w1.setCell ⟨p, 1, none⟩ (.slice (some ⟨gg, 0, none⟩) (pend.length + 1) cq) := ⟨_, rfl⟩
  rw [← hW] at hfile ⊢
  obtain ⟨hf1, hs1, hk1, hgv⟩ := hfile
  have HGV := hid hgv
  clear hgv
  obtain ⟨e0, e1, e2, e3, e4⟩ := cells5 hf1.blk
  have gf : ∀ o, W.frozen? ⟨p, o, none⟩ = false := fun o => free_of_block hf1.blk
  have HF1 := hid hf1
  have HS1 := hid hs1
  have HK1 := hid hk1
  have hmf : ∀ (fn : Fn) (first cap : Array Value) (w : World), (Instr.makeFunc fn first cap).run Tryz.prog w = .ok (.func fn first cap) w := fun _ _ _ _ => rfl
  have hna := nilAhead124 sv
  have hmt := method124 sv
  clear hf1 hs1 hk1 hW b1 f1 HG c0 c1 c2 c3 c4 ff hnw
  go_region_with (
    go_at_call 189
    refine (doApp_any B _ _ _ ys data fresh W.drew HS1.out HF1.out.od HF1.out.of (by simpa using Nat.le_trans hB HK1.out.size) (by omega) (by omega) (by omega)).mono ?_
    rintro e w2 ⟨vd', vf', rfl, hd2, hf2, hl1, hl2, hk2⟩
    obtain ⟨ad', cd', rfl⟩ := own_shape hd2
    obtain ⟨af', cf', rfl⟩ := own_shape hf2
    have hblk2 := (show w2.heap[p]? = some (.cells #[vs, .slice (some ⟨gg, 0, none⟩) (pend.length + 1) cq, .slice ad data.length cd, .slice af fresh.length cf, .int .i64 peak] 112 (0, 0)) from hp_kept HF1.out.blk (w' := w2) (S := fun k => (Value.slice ad data.length cd).ownBlock = some k ∨ (Value.slice af fresh.length cf).ownBlock = some k) ⟨hk2.os, hk2.tape, hk2.output, hk2.size, hk2.block⟩ (by rintro (e | e); exact hvd e; exact hvf e))
    obtain ⟨-, -, g2, g3, -⟩ := cells5 hblk2
    have gg2 := (show ∀ o, w2.frozen? ⟨p, o, none⟩ = false from fun o => free_of_block hblk2)
    have HX := hid (And.intro hblk2 (And.intro hd2 (And.intro hf2 (And.intro hl1 (And.intro hl2 hk2)))))
    clear hd2 hf2 hl1 hl2 hk2 hblk2)
  all_goals
    have hfin : FileAt ((w2.setCell ⟨p, 2, none⟩ (.slice ad' (data.length + ys.length) cd')).setCell ⟨p, 3, none⟩ (.slice af' (fresh.length + ys.length) cf')) B p safe (pend ++ [.iface 124 sv]) (data ++ ys) (fresh ++ List.replicate ys.length true) peak vs (.slice (some ⟨gg, 0, none⟩) (pend.length + 1) cq) (.slice ad' (data.length + ys.length) cd') (.slice af' (fresh.length + ys.length) cf') ∧
        Kept (fun k => k = p ∨ (Value.slice ap pend.length cp).ownBlock = some k ∨ (Value.slice ad data.length cd).ownBlock = some k ∨ (Value.slice af fresh.length cf).ownBlock = some k) w ((w2.setCell ⟨p, 2, none⟩ (.slice ad' (data.length + ys.length) cd')).setCell ⟨p, 3, none⟩ (.slice af' (fresh.length + ys.length) cf')) ∧ ((Value.slice ad' (data.length + ys.length) cd').ownBlock = (Value.slice ad data.length cd).ownBlock ∨ ∃ k, w.heap.size ≤ k ∧ (Value.slice ad' (data.length + ys.length) cd').ownBlock = some k) ∧ ((Value.slice af' (fresh.length + ys.length) cf').ownBlock = (Value.slice af fresh.length cf).ownBlock ∨ ∃ k, w.heap.size ≤ k ∧ (Value.slice af' (fresh.length + ys.length) cf').ownBlock = some k) := by
      obtain ⟨hblk2, hd2, hf2, hl1, hl2, hk2⟩ := HX.out
      simp only [List.length_append, List.length_replicate] at hd2 hf2 hl1 hl2
      have h := HF1.out
      have K2 : Kept (fun k => (Value.slice ad data.length cd).ownBlock = some k ∨ (Value.slice af fresh.length cf).ownBlock = some k) W w2 := ⟨hk2.os, hk2.tape, hk2.output, hk2.size, hk2.block⟩
      have K3 : Kept (fun k => k = p) w2 ((w2.setCell ⟨p, 2, none⟩ (.slice ad' (data.length + ys.length) cd')).setCell ⟨p, 3, none⟩ (.slice af' (fresh.length + ys.length) cf')) := ((Kept.refl (fun k => k = p) w2).setCell (p := ⟨p, 2, none⟩) (fun _ => rfl) _).setCell (p := ⟨p, 3, none⟩) (fun _ => rfl) _
      have ed : (Value.slice ad' (data.length + ys.length) cd').ownBlock ≠ some p := own_ne_blk hd2 hblk2 (by decide)
      have ef : (Value.slice af' (fresh.length + ys.length) cf').ownBlock ≠ some p := own_ne_blk hf2 hblk2 (by decide)
      refine ⟨⟨set_block (i := 3) (set_block (i := 2) hblk2 _) _, ?_, ?_, ?_, ?_, ?_⟩, ?_, ?_, ?_⟩
      · refine ownsRow_kept (ownsRow_kept h.os K2 ?_) K3 (fun k hk e => by subst e; exact hvs hk)
        rintro k hk (e | e)
        · exact h.sep k hk e
        · exact own_ne h.os h.of (by decide) k hk e
      · refine ownsRow_kept (ownsRow_kept h.op K2 ?_) K3 (fun k hk e => by subst e; exact own_ne_blk h.op h.blk (by decide) hk)
        rintro k hk (e | e)
        · exact own_ne h.op h.od (by decide) k hk e
        · exact own_ne h.op h.of (by decide) k hk e
      · have := ownsRow_kept hd2 K3 (fun k hk e => by subst e; exact ed hk)
        simpa using this
      · have := ownsRow_kept hf2 K3 (fun k hk e => by subst e; exact ef hk)
        simpa using this
      · intro k hk e
        rcases hl1 with h1 | ⟨j, h1, h2⟩
        · rw [h1] at e; exact h.sep k hk e
        · rw [h2] at e; injection e with e
          have := (h.os.lt k hk).2
          have h3 : W.heap.size ≤ j := h1
          omega
      · refine ((HK1.out.mono (S' := fun k => k = p ∨ (Value.slice ap pend.length cp).ownBlock = some k ∨ (Value.slice ad data.length cd).ownBlock = some k ∨ (Value.slice af fresh.length cf).ownBlock = some k) ?_).trans K2 ?_).trans K3 (fun i _ e => .inl e)
        · rintro i _ (e | e)
          · exact .inl e
          · exact .inr (.inl e)
        · rintro i _ (e | e)
          · exact .inr (.inr (.inl e))
          · exact .inr (.inr (.inr e))
      · rcases hl1 with h1 | ⟨j, h1, h2⟩
        · exact .inl h1
        · have h3 : W.heap.size ≤ j := h1
          exact .inr ⟨j, Nat.le_trans HK1.out.size h3, h2⟩
      · rcases hl2 with h1 | ⟨j, h1, h2⟩
        · exact .inl h1
        · have h3 : W.heap.size ≤ j := h1
          exact .inr ⟨j, Nat.le_trans HK1.out.size h3, h2⟩
    obtain ⟨n1, hn1⟩ : ∃ n1, n1 = data.length + ys.length := ⟨_, rfl⟩
    obtain ⟨n2, hn2⟩ : ∃ n2, n2 = fresh.length + ys.length := ⟨_, rfl⟩
    rw [← hn1, ← hn2] at hfin ⊢
    obtain ⟨W2, hW2⟩ : ∃ W2, W2 = (w2.setCell ⟨p, 2, none⟩ (.slice ad' n1 cd')).setCell ⟨p, 3, none⟩ (.slice af' n2 cf') := ⟨_, rfl⟩
    rw [← hW2] at hfin ⊢
    obtain ⟨hf3, hk3, hl3⟩ := hfin
    obtain ⟨-, -, x2, -, x4⟩ := cells5 hf3.blk
    have xf : ∀ o, W2.frozen? ⟨p, o, none⟩ = false := fun o => free_of_block hf3.blk
    have HF3 := hid hf3
    have HK3 := hid (And.intro hk3 hl3)
    have hn3 : n1 ≤ 200000000 := by omega
    have HN := hid hn1
    clear hn1 hn2 hW2 hf3 hk3 hl3 HX g2 g3 gg2 HF1 HS1 HK1 e0 e1 e2 e3 e4 gf
    go_wp2_with fail
    go_region
    all_goals
      go_end0
      have h := HF3.out
      have hnl : (data ++ ys).length = n1 := by rw [HN.out]; simp
      have K4 : Kept (fun k => k = p) W2 (W2.setCell ⟨p, 4, none⟩ (.int .i64 (max peak n1))).drew := ((Kept.refl (fun k => k = p) W2).setCell (p := ⟨p, 4, none⟩) (fun _ => rfl) _).drew
      refine ⟨rfl, _, _, _, ⟨?_, ownsRow_kept h.os K4 (fun k hk e => by subst e; exact hvs hk), ownsRow_kept h.op K4 (fun k hk e => by subst e; exact own_ne_blk h.op h.blk (by decide) hk), ownsRow_kept h.od K4 (fun k hk e => by subst e; exact own_ne_blk h.od h.blk (by decide) hk), ownsRow_kept h.of K4 (fun k hk e => by subst e; exact own_ne_blk h.of h.blk (by decide) hk), h.sep⟩, HK3.out.2.1, HK3.out.1.trans K4 (fun i _ e => .inl e), HGV.out, HK3.out.2.2⟩
      rw [hnl]
      exact set_block (i := 4) h.blk _

end Go.Proofs.YtlmompdfombgeaaGreat
