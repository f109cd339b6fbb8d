import Derived.Test.YtlmompdfombgeaaGreatX1
namespace Go.Proofs.YtlmompdfombgeaaGreat
open Go.RowKit Go.MapKept

set_option maxRecDepth 100000 in
set_option maxHeartbeats 1600000 in
theorem new_ok (room files : Int) (w : World) (h0 : 0 ≤ room) (h1 : room ≤ 4194304) (h2 : 0 ≤ files) (h3 : files ≤ 512) :
    Calls Tryz.prog 9 #[.int .i64 room, .int .i64 files] w fun x w' => x = .returned (.tuple #[.pointer (some ⟨w.heap.size, 0, none⟩), .int .i64 0]) ∧ Zero w.heap.size w' w.heap.size (w.heap.size + 1) (w.heap.size + 2) (w.heap.size + 3) room files 0 0 0 0 0 ∧ Below w.heap.size w w' := by
  have hmm := @run_makeMap Tryz.prog
  go_enter Tryz.func9, Tryz.ntmps9
  go_wp2
  go_ret2
  refine ⟨rfl, ⟨?_, ?_, ?_, ?_, by omega, by omega⟩, ?_⟩
  · exact hp_alloc (hp_alloc (hp_alloc (hp_new _ _) _) _) _
  · have := hp_alloc (hp_alloc (hp_new (w.alloc (.cells #[.int .i64 room, .int .i64 files, .map (some (w.heap.size + 1)), .int .i64 0, .map (some (w.heap.size + 1 + 1)), .map (some (w.heap.size + 1 + 1 + 1)), .slice none 0 0, .bool false, .int .i64 0, .map none, .int .i64 0, .map none] 53)) (.map #[] 0)) (.map #[] 0)) (.map #[] 0)
    simpa using this
  · have := hp_alloc (hp_new ((w.alloc (.cells #[.int .i64 room, .int .i64 files, .map (some (w.heap.size + 1)), .int .i64 0, .map (some (w.heap.size + 1 + 1)), .map (some (w.heap.size + 1 + 1 + 1)), .slice none 0 0, .bool false, .int .i64 0, .map none, .int .i64 0, .map none] 53)).alloc (.map #[] 0)) (.map #[] 0)) (.map #[] 0)
    simpa using this
  · have := hp_new (((w.alloc (.cells #[.int .i64 room, .int .i64 files, .map (some (w.heap.size + 1)), .int .i64 0, .map (some (w.heap.size + 1 + 1)), .map (some (w.heap.size + 1 + 1 + 1)), .slice none 0 0, .bool false, .int .i64 0, .map none, .int .i64 0, .map none] 53)).alloc (.map #[] 0)).alloc (.map #[] 0)) (.map #[] 0)
    simpa using this
  · exact ((((Below.refl _ _).alloc (Nat.le_refl _) _).alloc (by simp) _).alloc (by simp; omega) _).alloc (by simp; omega) _

set_option maxRecDepth 100000 in
theorem strokes_any (d : Nat) (n : Int) (w : World) (h : w.cell? ⟨d, 8, none⟩ = some (.int .i64 n)) : Calls Tryz.prog 32 #[.pointer (some ⟨d, 0, none⟩)] w fun x w' => x = .returned (.int .i64 n) ∧ w' = w := by
  go_enter Tryz.func32, Tryz.ntmps32
  go_wp2
  go_ret
  exact ⟨rfl, rfl⟩

set_option maxRecDepth 100000 in
theorem reads_any (d : Nat) (n : Int) (w : World) (h : w.cell? ⟨d, 10, none⟩ = some (.int .i64 n)) : Calls Tryz.prog 33 #[.pointer (some ⟨d, 0, none⟩)] w fun x w' => x = .returned (.int .i64 n) ∧ w' = w := by
  go_enter Tryz.func33, Tryz.ntmps33
  go_wp2
  go_ret
  exact ⟨rfl, rfl⟩

section
variable {B : Nat} {w : World} {d L Nb Fb p : Nat} {nm : ByteArray} {room limit : Int} {sf : Array MapEntry} {st rd : Int} {safe : List Int} {cs : List Chg} {data : List Int} {fresh : List Bool} {peak : Int} {nn : Nat} {xs : List Value} {vn k1 k2 : Value} {pend : List Value} {vs vp vd vf : Value} {cL bL cN bN cF : Nat}

set_option maxRecDepth 100000 in
set_option maxHeartbeats 1600000 in
theorem read_one (h : One B w d L Nb Fb p nm room limit sf st rd safe cs data fresh peak nn xs vn k1 k2 pend vs vp vd vf cL bL cN bN cF) (hok : nmOK nm = true) (hs : nm.size ≤ maxLen) (hr0 : 0 ≤ rd) (hr1 : rd ≤ 1000000) (l2 : data.length ≤ 100000000) :
    Calls Tryz.prog 15 #[.pointer (some ⟨d, 0, none⟩), .string nm] w fun x w' => ∃ Y, x = .returned (.tuple #[.slice (some ⟨Y, 0, none⟩) data.length data.length, .int .i64 0]) ∧ Own w' Y data ∧ w'.cell? ⟨d, 10, none⟩ = some (.int .i64 (rd + 1)) ∧ w.heap.size ≤ Y ∧ Kept (fun k => k = d) w w' := by
  have hb0 : Below w.heap.size w (w.alloc (.cells #[.string nm] 9)) := (Below.refl _ _).alloc (Nat.le_refl _) _
  have g2 : (w.alloc (.cells #[.string nm] 9)).cell? ⟨w.heap.size, 0, none⟩ = some (.string nm) := by simp [go_sem]
  have hfind := (h.below hb0).find w.heap.size 0 g2 hok hs (by omega) (by omega)
  have HF := hid hfind
  have H := hid h
  have hdl := hp_lt h.disk
  clear h hfind g2
  go_enter Tryz.func15, Tryz.ntmps15
  go_wp2_with (first
    | (go_at_call 69
       refine HF.out.mono ?_
       rintro e w1 ⟨rfl, hb1⟩
       have HB1 := hid (hb0.trans (hb1.mono hb0.size))
       have hw1 := H.out.below HB1.out
       obtain ⟨-, -, -, -, -, -, -, -, -, -, c10, c11⟩ := hw1.disk.cells
       have hcnt := count_any d 10 rd k2 w1 _ _ hw1.disk c10 c11 hr0 (by omega) hw1.kn2
       have HCN := hid hcnt
       have HW1 := hid hw1
       clear hb1 hw1 hcnt c10 c11)
    | (go_at_call 70
       refine HCN.out.mono ?_
       rintro e w2 ⟨nq, rfl, hw2⟩
       have hk2 := (show Kept (fun k => k = d) w1 w2 from (by rw [hw2]; exact keptd (Below.refl _ _)))
       have hf2 := HW1.out.file.kept hk2 (fun e => hp_ne HW1.out.disk HW1.out.file.blk (by simp) e.symm) (fun k hq e => by subst e; exact own_ne_blk HW1.out.file.os HW1.out.disk (by decide) hq) (fun k hq e => by subst e; exact own_ne_blk HW1.out.file.op HW1.out.disk (by decide) hq) (fun k hq e => by subst e; exact own_ne_blk HW1.out.file.od HW1.out.disk (by decide) hq) (fun k hq e => by subst e; exact own_ne_blk HW1.out.file.of HW1.out.disk (by decide) hq)
       obtain ⟨-, -, p2, -, -⟩ := cells5 hf2.blk
       have hd2 := (show w2.cell? ⟨d, 10, none⟩ = some (.int .i64 (rd + 1)) from (by
         have := cell_of_row (w1.setCell ⟨d, 10, none⟩ (.int .i64 (rd + 1))) d 10 _ _ _ (set_block (i := 10) HW1.out.disk _)
         rw [hw2]
         simpa using this))
       obtain ⟨ad, cd, e0⟩ := own_shape hf2.od
       have hsl := sl_of_owns hf2.od
       rw [e0] at p2 hsl
       have H2 := hid (And.intro hk2 (And.intro hd2 hsl))
       clear hw2 hk2 hf2 hd2 hsl e0)
    | (go_at_call 71
       refine (copied_any _ data _ H2.out.2.2 (by omega)).mono ?_
       rintro e w3 ⟨rfl, ho, hb⟩
       have H3 := hid (And.intro ho hb)
       clear ho hb))
  go_ret2
  obtain ⟨hk2, hd2, hsl⟩ := H2.out
  obtain ⟨ho, hb⟩ := H3.out
  have hz1 := HB1.out.size
  have hz2 := hk2.size
  exact ⟨w2.heap.size, rfl, ho, (hb.cell (World.block_lt_of_cell? _ _ hd2)).trans hd2, by omega, (((Kept.ofBelow HB1.out).mono (fun _ _ e => e.elim)).trans hk2 (fun _ _ e => e)).trans (Kept.ofBelow hb) (fun _ _ e => e.elim)⟩

end
end Go.Proofs.YtlmompdfombgeaaGreat
