import Derived.Test.YtlmompdfombgeaaGreatK02
import Derived.Test.YtlmompdfombgeaaGreatK04
namespace Go.Proofs.YtlmompdfombgeaaGreat
open Go.RowKit Go.MapKept

/-- A disk's block. -/
def DiskB (w : World) (d : Nat) (room limit : Int) (L : Value) (made : Int) (N F vn : Value) (off : Bool) (st : Int) (k1 : Value) (rd : Int) (k2 : Value) : Prop :=
  w.heap[d]? = some (.cells #[.int .i64 room, .int .i64 limit, L, .int .i64 made, N, F, vn, .bool off, .int .i64 st, k1, .int .i64 rd, k2] 53 (0, 0))

theorem DiskB.free {w : World} {d : Nat} {room limit : Int} {L : Value} {made : Int} {N F vn : Value} {off : Bool} {st : Int} {k1 : Value} {rd : Int} {k2 : Value} (h : DiskB w d room limit L made N F vn off st k1 rd k2) : ∀ o, w.frozen? ⟨d, o, none⟩ = false := fun _o => free_of_block h

theorem DiskB.cells {w : World} {d : Nat} {room limit : Int} {L : Value} {made : Int} {N F vn : Value} {off : Bool} {st : Int} {k1 : Value} {rd : Int} {k2 : Value} (h : DiskB w d room limit L made N F vn off st k1 rd k2) :
    w.cell? ⟨d, 0, none⟩ = some (.int .i64 room) ∧ w.cell? ⟨d, 1, none⟩ = some (.int .i64 limit) ∧ w.cell? ⟨d, 2, none⟩ = some L ∧ w.cell? ⟨d, 3, none⟩ = some (.int .i64 made) ∧ w.cell? ⟨d, 4, none⟩ = some N ∧ w.cell? ⟨d, 5, none⟩ = some F ∧ w.cell? ⟨d, 6, none⟩ = some vn ∧ w.cell? ⟨d, 7, none⟩ = some (.bool off) ∧ w.cell? ⟨d, 8, none⟩ = some (.int .i64 st) ∧ w.cell? ⟨d, 9, none⟩ = some k1 ∧ w.cell? ⟨d, 10, none⟩ = some (.int .i64 rd) ∧ w.cell? ⟨d, 11, none⟩ = some k2 := by
  unfold DiskB at h
  refine ⟨?_, ?_, ?_, ?_, ?_, ?_, ?_, ?_, ?_, ?_, ?_, ?_⟩ <;> (rw [cell_of_row w d _ _ _ _ h]; rfl)

theorem set_block {w : World} {p i : Nat} {c : Array Value} {t : TypeId} (h : w.heap[p]? = some (.cells c t (0, 0))) (v : Value) : (w.setCell ⟨p, i, none⟩ v).heap[p]? = some (.cells (c.setIfInBounds i v) t (0, 0)) := by
  simp [World.setCell, Array.getElem?_modify, h]

theorem puts_cell (w : World) {r : Nat} (o : Obj) (p : Addr) (h : p.block ≠ r) : (puts w r o).cell? p = w.cell? p := World.cell?_of_block (puts_other w o h)
theorem puts_frozen (w : World) {r : Nat} (o : Obj) (p : Addr) (h : p.block ≠ r) : (puts w r o).frozen? p = w.frozen? p := by
  simp [World.frozen?, puts_other w o h]

theorem key_int (n : Int) : IsKey (.int .i64) (.int .i64 n) := by simp [IsKey]
theorem key_str (s : ByteArray) : IsKey .string (.string s) := by simp [IsKey]

/-- What is written lies below a file. -/
theorem FileAt.low {w w' : World} {S : Nat → Prop} {B p : Nat} {safe : List Int} {pend : List Value} {data : List Int} {fresh : List Bool} {peak : Int} {vs vp vd vf : Value} (h : FileAt w B p safe pend data fresh peak vs vp vd vf) (hk : Kept S w w') (hp : B ≤ p) (hS : ∀ k, S k → k < B) : FileAt w' B p safe pend data fresh peak vs vp vd vf := by
  refine h.kept hk (fun e => ?_) (fun k hk2 e => ?_) (fun k hk2 e => ?_) (fun k hk2 e => ?_) (fun k hk2 e => ?_)
  · have := hS _ e; omega
  · have := hS _ e; have := (h.os.lt k hk2).1; omega
  · have := hS _ e; have := (h.op.lt k hk2).1; omega
  · have := hS _ e; have := (h.od.lt k hk2).1; omega
  · have := hS _ e; have := (h.of.lt k hk2).1; omega

set_option maxRecDepth 100000 in
set_option maxHeartbeats 1000000 in
theorem add_any (d : Nat) (v : Value) (bs : List Int) (w : World) (room limit : Int) (L : Nat) (made : Int) (N F vn : Value) (off : Bool) (st : Int) (k1 : Value) (rd : Int) (k2 : Value) (es : Array MapEntry) (c : Nat)
    (hD : DiskB w d room limit (.map (some L)) made N F vn off st k1 rd k2) (hL : w.heap[L]? = some (.map es c)) (hf : Instr.findNow (.int .i64) (.int .i64 (made + 1)) es.toList 0 = some none) (hm0 : 0 ≤ made) (hm : made ≤ 1000000000) (h : Sl w v bs) (hl : bs.length ≤ 1000000000) (hvd : ∀ k, v.ownBlock = some k → k ≠ d) :
    Calls Tryz.prog 79 #[.pointer (some ⟨d, 0, none⟩), v] w fun x w' => x = .returned (.int .i64 (made + 1)) ∧ ∃ p vs vd vf, w.heap.size ≤ p ∧ FileAt w' w.heap.size p bs [] bs (List.replicate bs.length false) bs.length vs (.slice none 0 0) vd vf ∧
      DiskB w' d room limit (.map (some L)) (made + 1) N F vn off st k1 rd k2 ∧ w'.heap[L]? = some (.map (es.push { key := .int .i64 (made + 1), val := .pointer (some ⟨p, 0, none⟩), born := c }) (c + 1)) ∧ Kept (fun k => k = d ∨ k = L) w w' := by
  obtain ⟨c0, c1, c2, c3, c4, c5, c6, c7, c8, c9, c10, c11⟩ := hD.cells
  have ff := hD.free
  have hdL : d ≠ L := hp_ne hD hL (by simp)
  have hdl := hp_lt hD
  have hLl := hp_lt hL
  have hsk : Kept (fun k => k = d ∨ k = L) w (w.setCell ⟨d, 3, none⟩ (.int .i64 (made + 1))) := (Kept.refl _ w).setCell (p := ⟨d, 3, none⟩) (fun _ => .inl rfl) _
  have hs1 : Sl (w.setCell ⟨d, 3, none⟩ (.int .i64 (made + 1))) v bs := h.kept (S := fun k => k = d) ((Kept.refl (fun k => k = d) w).setCell (p := ⟨d, 3, none⟩) (fun _ => rfl) _) (fun k hk e => hvd k hk e)
  have hD1 : DiskB (w.setCell ⟨d, 3, none⟩ (.int .i64 (made + 1))) d room limit (.map (some L)) (made + 1) N F vn off st k1 rd k2 := set_block hD _
  have hL1 : (w.setCell ⟨d, 3, none⟩ (.int .i64 (made + 1))).heap[L]? = some (.map es c) := hp_set hL (by simpa using hdL.symm) _
  have HS := hid hs1
  have HD1 := hid hD1
  have HL1 := hid hL1
  have HK := hid hsk
  have HF := hid hf
  clear hs1 hD1 hL1 hsk hD hL h c0 c1 c4 c5 c6 c7 c8 c9 c10 c11 hf hvd
  go_enter Tryz.func79, Tryz.ntmps79
  go_wp2
  go_region_with (
    go_at_call 121
    refine (newFile_any _ bs _ HS.out.drew hl).mono ?_
    rintro e w1 ⟨p, vs, vd, vf, rfl, hp, hfile, hb⟩
    have hbu := undrew hb
    have hD2 := (show DiskB w1 d room limit (.map (some L)) (made + 1) N F vn off st k1 rd k2 from hp_below HD1.out hbu (hp_lt HD1.out))
    have hL2 := (show w1.heap[L]? = some (.map es c) from hp_below HL1.out hbu (hp_lt HL1.out))
    obtain ⟨-, -, e2, e3, -⟩ := hD2.cells
    have hu := upd_new (w := w1) Tryz.underlying46 Tryz.underlying3 hL2 (key_int (made + 1)) (.pointer (some ⟨p, 0, none⟩)) HF.out
    have e4 := (puts_cell w1 (.map (es.push { key := .int .i64 (made + 1), val := .pointer (some ⟨p, 0, none⟩), born := c }) (c + 1)) ⟨d, 3, none⟩ hdL).trans e3
    have HX := hid (And.intro hp (And.intro hfile (And.intro hbu (And.intro hD2 hL2))))
    clear hp hfile hb hbu hD2 hL2)
  all_goals go_wp2
  all_goals
    go_ret
    obtain ⟨hp, hfile, hbu, hD2, hL2⟩ := HX.out
    have hsz : (w.setCell ⟨d, 3, none⟩ (.int .i64 (made + 1))).drew.heap.size = w.heap.size := by simp [World.setCell, World.drew]
    rw [hsz] at hp hfile hbu
    have hkp : Kept (fun k => k = L) w1 (puts w1 L (.map (es.push { key := .int .i64 (made + 1), val := .pointer (some ⟨p, 0, none⟩), born := c }) (c + 1))) := (Kept.refl (fun k => k = L) w1).puts (fun _ => rfl) _
    refine ⟨rfl, p, vs, vd, vf, hp, hfile.low hkp hp (fun k e => by omega), hp_kept hD2 hkp hdL, puts_same hL2, ?_⟩
    have hbw : Kept (fun _ => False) (w.setCell ⟨d, 3, none⟩ (.int .i64 (made + 1))) w1 := Kept.ofBelow (by simpa [World.setCell] using hbu)
    exact (HK.out.trans hbw (fun _ _ h => h.elim)).trans hkp (fun i _ e => .inr e)

end Go.Proofs.YtlmompdfombgeaaGreat

namespace Go.Proofs.YtlmompdfombgeaaGreat
open Go.RowKit Go.MapKept

set_option maxRecDepth 100000 in
set_option maxHeartbeats 1000000 in
theorem do_create (nm : ByteArray) (file : Int) (b : Nat) (es : Array MapEntry) (c : Nat) (w : World) (hb : w.heap[b]? = some (.map es c)) (h0 : Instr.findNow .string (.string ⟨#[]⟩) es.toList 0 = some none) (h1 : Instr.findNow .string (.string nm) es.toList 0 = some none) (hne : nm.toList.isEmpty = false) :
    Calls Tryz.prog 95 #[.agg #[.string ⟨#[]⟩, .string nm, .int .i64 file], .map (some b)] w fun x w' => x = .returned (.tuple #[]) ∧ w'.heap[b]? = some (.map (es.push { key := .string nm, val := .int .i64 file, born := c }) (c + 1)) ∧ Kept (fun k => k = b) w w' := by
  have H0 := hid h0
  have H1 := hid h1
  have HB := hid hb
  have hl := hp_lt hb
  clear h0 h1 hb
  go_enter Tryz.func95, Tryz.ntmps95
  go_wp2_with (first
    | (at_delete
       refine wpList_del_none _ rfl _ _ 47 _ rfl rfl 9 3 .string Tryz.underlying47 Tryz.underlying9 b es c rfl (hp_alloc HB.out _) _ rfl (key_str _) H0.out ?_
       intro w1 hb1 hg1 hs1
       have f1 := hg1.out.cell_far ⟨w.heap.size, 1, none⟩ (by simp) (by simp; omega)
       have f2 := hg1.out.cell_far ⟨w.heap.size, 2, none⟩ (by simp) (by simp; omega))
    | (at_mapUpdate
       refine wpList_upd_new _ rfl _ _ _ 47 rfl 9 3 .string Tryz.underlying47 Tryz.underlying9 b es c rfl hb1.out _ _ rfl rfl (key_str _) H1.out ?_
       intro w2 hb2 hg2 hs2))
  go_end0
  exact ⟨rfl, hb2.out, (((Kept.refl (fun k => k = b) w).alloc _).grown hg1.out (fun k _ e => by cases e; rfl)).grown hg2.out (fun k _ e => by cases e; rfl)⟩

end Go.Proofs.YtlmompdfombgeaaGreat

namespace Go.Proofs.YtlmompdfombgeaaGreat
open Go.RowKit Go.MapKept

theorem Tryz.info121 : (Tryz.prog.info? 121).map (fun i => (i.zero, i.size, i.bytes)) = some (some (.agg #[.string ⟨#[]⟩, .string ⟨#[]⟩, .int .i64 0]), 3, 40) := by kernel_rfl

theorem owns_block {w : World} {B : Nat} {e : TypeId} {size : Nat} {v : Value} {n : Nat} {xs : List Value} (h : w.ownsRow B e size v n xs) : ∀ k, v.ownBlock = some k → ∃ cs, w.heap[k]? = some (.cells cs e (0, 0)) := by
  intro k hk
  rcases h.2 with ⟨rfl, _⟩ | ⟨g, cap, cur, rfl, hb, hg, _⟩
  · simp [Value.ownBlock] at hk
  · simp [Value.ownBlock] at hk
    subst hk
    exact ⟨_, hg⟩

set_option maxRecDepth 100000 in
set_option maxHeartbeats 1000000 in
theorem pend_names (B d : Nat) (frm to : ByteArray) (file : Int) (w : World) (room limit : Int) (L : Value) (made : Int) (Nb : Nat) (F vn : Value) (off : Bool) (st : Int) (k1 : Value) (rd : Int) (k2 : Value) (es es' : Array MapEntry) (c c' n : Nat) (xs : List Value)
    (hD : DiskB w d room limit L made (.map (some Nb)) F vn off st k1 rd k2) (hN : w.heap[Nb]? = some (.map es c)) (hB : B ≤ w.heap.size) (hv : w.ownsRow B 121 3 vn n xs) (hn : n ≤ 1000000) (h1 : frm.size ≤ 1000000) (h2 : to.size ≤ 1000000)
    (hdo : ∀ wx : World, wx.heap[Nb]? = some (.map es c) → Calls Tryz.prog 95 #[.agg #[.string frm, .string to, .int .i64 file], .map (some Nb)] wx fun x w' => x = .returned (.tuple #[]) ∧ w'.heap[Nb]? = some (.map es' c') ∧ Kept (fun k => k = Nb) wx w') :
    Calls Tryz.prog 78 #[.pointer (some ⟨d, 0, none⟩), .agg #[.string frm, .string to, .int .i64 file]] w fun x w' => x = .returned (.tuple #[]) ∧ ∃ vn', DiskB w' d room limit L made (.map (some Nb)) F vn' off st k1 rd k2 ∧ w'.heap[Nb]? = some (.map es' c') ∧ w'.ownsRow B 121 3 vn' (n + 1) (xs ++ [.string frm, .string to, .int .i64 file]) ∧ Kept (fun k => k = d ∨ k = Nb ∨ vn.ownBlock = some k) w w' := by
  have hdl := hp_lt hD
  have HD := hid hD
  have HN := hid hN
  have HV := hid hv
  clear hD hN hv
  go_enter Tryz.func78, Tryz.ntmps78
  go_wp2_with fail
  rename_i K hK
  have HR : ∀ wx : World, wx.heap[w.heap.size]? = some (.cells #[.string frm, .string to, .int .i64 file] 121 (0, 0)) → Below w.heap.size w wx →
      K { tmps := #[Value.pointer (some { block := d, off := 0 }), Value.agg #[Value.string frm, Value.string to, Value.int IntKind.i64 file], undef, Value.pointer (some { block := w.heap.size, off := 0 }), Value.pointer (some { block := w.heap.size, off := 0 }), Value.string frm, Value.string frm, Value.pointer (some { block := w.heap.size, off := 1 }), Value.string to, Value.string to, Value.pointer (some { block := w.heap.size, off := 0 }), Value.pointer (some { block := w.heap.size, off := 1 }), undef, undef, undef, undef, undef, undef, undef, undef, undef, undef, undef, undef, undef, undef, undef, undef], defers := [] } wx := by
    intro wx hq hbw
    have hz := hbw.size
    have hql := hp_lt hq
    have hdx : d < wx.heap.size := by omega
    have hD := (show DiskB wx d room limit L made (.map (some Nb)) F vn off st k1 rd k2 from hp_below HD.out hbw hdl)
    have hN := (show wx.heap[Nb]? = some (.map es c) from hp_below HN.out hbw (hp_lt HN.out))
    have hv := ownsRow_kept HV.out (Kept.ofBelow hbw) (fun _ _ h => h)
    obtain ⟨-, -, -, -, c4, -, c6, -⟩ := hD.cells
    have ff := hD.free
    have hnw := World.new_ne wx ⟨d, 6, none⟩ c6
    have q0 : wx.cell? ⟨w.heap.size, 0, none⟩ = some (.string frm) := by rw [cell_of_row wx _ 0 _ _ _ hq]; rfl
    have q1 : wx.cell? ⟨w.heap.size, 1, none⟩ = some (.string to) := by rw [cell_of_row wx _ 1 _ _ _ hq]; rfl
    have q2 : wx.cell? ⟨w.heap.size, 2, none⟩ = some (.int .i64 file) := by rw [cell_of_row wx _ 2 _ _ _ hq]; rfl
    have hvd : vn.ownBlock ≠ some d := fun e => by
      obtain ⟨cs, h⟩ := owns_block hv d e
      exact hp_ne hD h (by simp) rfl
    have hvn : vn.ownBlock ≠ some Nb := fun e => by
      obtain ⟨cs, h⟩ := owns_block hv Nb e
      exact hp_ne hN h (by simp) rfl
    have hvl : vn.ownBlock ≠ some w.heap.size := fun e => by have := (HV.out.lt _ e).2; omega
    obtain ⟨i0, hi, hz0, hz1, hz2⟩ := info_parts Tryz.info121
    apply hK
    have HQ := hid (And.intro hq (And.intro hbw (And.intro hD (And.intro hN hv))))
    clear hq hbw hD hN hK
    go_wp2_with fail
    go_region_law
      ((refine step_append_lies _ (by rfl) _ _ _ (by rfl) B 121 i0 _ 3 40 Tryz.underlying48 hi hz0 hz1 hz2 rfl (by omega) vn n xs (by rfl) ((hv.alloc _).drew)
          ⟨wx.heap.size, 0, none⟩ 1 1 [.string frm, .string to, .int .i64 file] (by rfl) (by rfl) (World.news_of_block (cs := #[.string frm, .string to, .int .i64 file]) (t := 121) (fr := (0, 0)) (heap_alloc_new wx _)) (by simp [Value.oneCell'])
          (by omega) (by unfold maxLen; omega) (by omega) (by simp; omega) (wx.heap.size + 1) (by simp) ?_; intro gg cap w1 hown1 hgrow hat hlt; have f1 := (hgrow.frozen_far ⟨d, 6, none⟩ (by simp; omega) (Ne.symm hvd)).trans ((frozen?_alloc_cells _ _ _ _).trans (ff 6)); have c2 := (hgrow.cell_far ⟨d, 6, none⟩ (by simp; omega) (Ne.symm hvd)).trans ((World.cell?_alloc_past _ _ _ (by first | omega | (simp; omega))).trans c6)))
    all_goals
      obtain ⟨hq, hbw, hD, hN, hv0⟩ := HQ.out
      have hnl := hp_lt hN
      have hq1 := (hgrow.block w.heap.size (by simp; omega) (Ne.symm hvl)).trans (hp_alloc hq _)
      have hN1 := (hgrow.block Nb (by simp; omega) (Ne.symm hvn)).trans (hp_alloc hN _)
      have hD1 := (hgrow.block d (by simp; omega) (Ne.symm hvd)).trans (hp_alloc hD _)
      have hgd : gg ≠ d := by
        intro e
        rcases hat with h | h
        · rw [e] at h; exact hvd h
        · omega
      have hD2 : DiskB (w1.setCell ⟨d, 6, none⟩ (.slice (some ⟨gg, 0, none⟩) (n + 1) cap)) d room limit L made (.map (some Nb)) F (.slice (some ⟨gg, 0, none⟩) (n + 1) cap) off st k1 rd k2 := set_block hD1 _
      have hN2 := hp_set hN1 (p := ⟨d, 6, none⟩) (fun e => hp_ne hD1 hN1 (by simp) e.symm) (.slice (some ⟨gg, 0, none⟩) (n + 1) cap)
      have hq2 := hp_set hq1 (p := ⟨d, 6, none⟩) (show w.heap.size ≠ d by omega) (.slice (some ⟨gg, 0, none⟩) (n + 1) cap)
      have hk3 : Kept (fun k => k = d ∨ k = Nb ∨ vn.ownBlock = some k) w w1 := by
        refine Kept.trans (S' := fun k => vn.ownBlock = some k) ((Kept.ofBelow hbw).mono (S' := fun k => k = d ∨ k = Nb ∨ vn.ownBlock = some k) (fun _ _ h => h.elim)) ?_ (fun i _ e => .inr (.inr e))
        exact (Kept.grown (((Kept.refl _ wx).alloc _).drew) hgrow (fun k _ e => e))
      have hk4 : Kept (fun k => k = d ∨ k = Nb ∨ vn.ownBlock = some k) w (w1.setCell ⟨d, 6, none⟩ (.slice (some ⟨gg, 0, none⟩) (n + 1) cap)) := hk3.setCell (p := ⟨d, 6, none⟩) (fun _ => .inl rfl) _
      have ho4 : (w1.setCell ⟨d, 6, none⟩ (.slice (some ⟨gg, 0, none⟩) (n + 1) cap)).ownsRow B 121 3 (.slice (some ⟨gg, 0, none⟩) (n + 1) cap) (n + 1) (xs ++ [.string frm, .string to, .int .i64 file]) :=
        ownsRow_kept hown1 ((Kept.refl (fun k => k = d) w1).setCell (p := ⟨d, 6, none⟩) (fun _ => rfl) _) (by intro k hk e; simp [Value.ownBlock] at hk; omega)
      obtain ⟨W, hW⟩ : ∃ W, W = w1.setCell ⟨d, 6, none⟩ (.slice (some ⟨gg, 0, none⟩) (n + 1) cap) := ⟨_, rfl⟩
      rw [← hW] at hD2 hN2 hq2 hk4 ho4 ⊢
      clear hW hk3 hq1 hN1 hD1 hq hbw hD hN hv0 HQ hgrow hown1 f1 c2 c4 c6 q0 q1 q2 ff hv hnw
      obtain ⟨-, -, -, -, e4, -⟩ := hD2.cells
      have q0 : W.cell? ⟨w.heap.size, 0, none⟩ = some (.string frm) := by rw [cell_of_row W _ 0 _ _ _ hq2]; rfl
      have q1 : W.cell? ⟨w.heap.size, 1, none⟩ = some (.string to) := by rw [cell_of_row W _ 1 _ _ _ hq2]; rfl
      have q2 : W.cell? ⟨w.heap.size, 2, none⟩ = some (.int .i64 file) := by rw [cell_of_row W _ 2 _ _ _ hq2]; rfl
      have HQ := hid (And.intro hq2 (And.intro hD2 (And.intro hN2 (And.intro hk4 ho4))))
      clear hq2 hD2 hN2 hk4 ho4
      go_wp2_with fail
      go_region_with (
        go_at_call 95
        refine (hdo W.drew HQ.out.2.2.1).mono ?_
        rintro e w2 ⟨rfl, hN5, hk5⟩
        have HX := hid (And.intro hN5 hk5)
        clear hN5 hk5)
      all_goals
        go_wp2
        go_end0
        obtain ⟨hq2, hD2, hN2, hk4, ho4⟩ := HQ.out
        obtain ⟨hN5, hk5⟩ := HX.out
        have hk6 : Kept (fun k => k = Nb) W w2 := ⟨hk5.os, hk5.tape, hk5.output, hk5.size, hk5.block⟩
        refine ⟨rfl, _, hp_kept hD2 hk6 (fun e => hp_ne hD2 hN2 (by simp) e), hN5, ownsRow_kept ho4 hk6 (fun k hk e => ?_), hk4.trans hk6 (fun i _ e => .inr (.inl e))⟩
        obtain ⟨cs, h⟩ := owns_block ho4 k hk
        rw [e] at h
        exact hp_ne hN2 h (by simp) rfl
  clear hK
  go_region_with (
    go_at_call 92
    first
    | (refine (strClone_any frm _ (by omega)).mono ?_
       rintro e w1 ⟨rfl, hb⟩
       have hz : w.heap.size < w1.heap.size := (by have := hb.size; (try simp at this); omega)
       have a0 := hb.cell (p := ⟨w.heap.size, 0, none⟩) (by first | omega | (simp; try omega))
       have a1 := hb.cell (p := ⟨w.heap.size, 1, none⟩) (by first | omega | (simp; try omega))
       have b0 := hb.frozen (p := ⟨w.heap.size, 0, none⟩) (by first | omega | (simp; try omega))
       have b1 := hb.frozen (p := ⟨w.heap.size, 1, none⟩) (by first | omega | (simp; try omega))
       have HB1 := hid hb
       clear hb)
    | (refine (strClone_any to _ (by omega)).mono ?_
       rintro e w2 ⟨rfl, hb⟩
       have hz2 : w.heap.size < w2.heap.size := (by have := hb.size; (try simp at this); omega)
       have a0' := hb.cell (p := ⟨w.heap.size, 0, none⟩) (by first | omega | (simp; try omega))
       have a1' := hb.cell (p := ⟨w.heap.size, 1, none⟩) (by first | omega | (simp; try omega))
       have b0' := hb.frozen (p := ⟨w.heap.size, 0, none⟩) (by first | omega | (simp; try omega))
       have b1' := hb.frozen (p := ⟨w.heap.size, 1, none⟩) (by first | omega | (simp; try omega))
       have HB2 := hid hb
       clear hb))
  all_goals
    refine HR _ ?_ ?_
    · have h0 := hp_new w (Obj.cells #[Value.string frm, Value.string to, Value.int IntKind.i64 file] 121)
      have h1 := hp_below (hp_below h0 (undrew HB1.out) (by simp)) HB2.out (by first | omega | simp)
      have h2 := set_block (i := 1) (set_block (i := 0) h1 (Value.string frm)) (Value.string to)
      simpa using h2
    · have hb1 := undrew HB1.out
      have hb2 := HB2.out
      have hz1 := hb1.size
      have e1 : (w.alloc (Obj.cells #[Value.string frm, Value.string to, Value.int IntKind.i64 file] 121)).drew.heap.size = w.heap.size + 1 := by simp
      rw [e1] at hb1
      have hb3 : Below w.heap.size w w2 := (((Below.refl _ w).alloc (Nat.le_refl _) _).trans (hb1.mono (by omega))).trans (hb2.mono (by omega))
      exact (hb3.setCell (p := ⟨w.heap.size, 0, none⟩) (Nat.le_refl _) _).setCell (p := ⟨w.heap.size, 1, none⟩) (Nat.le_refl _) _

end Go.Proofs.YtlmompdfombgeaaGreat
