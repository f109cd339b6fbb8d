import Derived.Test.YtlmompdfombgeaaGreatD1
namespace Go.Proofs.YtlmompdfombgeaaGreat
open Go.RowKit Go.MapKept

set_option maxRecDepth 100000 in
set_option maxHeartbeats 1000000 in
theorem do_create (nm : ByteArray) (file : Int) (b : Nat) (es : Array MapEntry) (c : Nat) (w : World) (hb : w.heap[b]? = some (.map es c)) (h0 : Instr.findNow .string (.string ⟨#[]⟩) es.toList 0 = some none) (h1 : Instr.findNow .string (.string nm) es.toList 0 = some none) (hne : nm.toList.isEmpty = false) :
    Calls Tryz.prog 95 #[.agg #[.string ⟨#[]⟩, .string nm, .int .i64 file], .map (some b)] w fun x w' => x = .returned (.tuple #[]) ∧ w'.heap[b]? = some (.map (es.push { key := .string nm, val := .int .i64 file, born := c }) (c + 1)) ∧ Kept (fun k => k = b) w w' := by
  have H0 := hid h0
  have H1 := hid h1
  have HB := hid hb
  have hl := hp_lt hb
  clear h0 h1 hb
  go_enter Tryz.func95, Tryz.ntmps95
  go_wp2_with (first
    | (at_delete
       refine wpList_del_none _ rfl _ _ 47 _ rfl rfl 9 3 .string Tryz.underlying47 Tryz.underlying9 b es c rfl (hp_alloc HB.out _) _ rfl (key_str _) H0.out ?_
       intro w1 hb1 hg1 hs1
       have f1 := hg1.out.cell_far ⟨w.heap.size, 1, none⟩ (by simp) (by simp; omega)
       have f2 := hg1.out.cell_far ⟨w.heap.size, 2, none⟩ (by simp) (by simp; omega))
    | (at_mapUpdate
       refine wpList_upd_new _ rfl _ _ _ 47 rfl 9 3 .string Tryz.underlying47 Tryz.underlying9 b es c rfl hb1.out _ _ rfl rfl (key_str _) H1.out ?_
       intro w2 hb2 hg2 hs2))
  go_end0
  exact ⟨rfl, hb2.out, (((Kept.refl (fun k => k = b) w).alloc _).grown hg1.out (fun k _ e => by cases e; rfl)).grown hg2.out (fun k _ e => by cases e; rfl)⟩

end Go.Proofs.YtlmompdfombgeaaGreat
