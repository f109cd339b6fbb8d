import Derived.Test.YtamajeagmkjjbaaRlay
import Derived.Test.YtamajeagmkjjbaaKnown
namespace Go.Proofs.Ytamajeagmkjjbaa
open Go.RowKit

theorem Its.below {w w' : World} {v : Value} {its : List It} (h : Its w v its) (hb : Below w.heap.size w w') : Its w' v its := by
  obtain ⟨ao, cap, rfl, h1, h2, h3, h4⟩ := h
  refine ⟨ao, cap, rfl, h1, h2, h3, fun hne => ?_⟩
  obtain ⟨b, off, rfl, hj⟩ := h4 hne
  refine ⟨b, off, rfl, fun j x hx => ?_⟩
  obtain ⟨c0, c1, c2, c3, c4⟩ := hj j x hx
  exact ⟨(hb.cell (World.block_lt_of_cell? _ _ c0)).trans c0, (hb.cell (World.block_lt_of_cell? _ _ c1)).trans c1, (hb.cell (World.block_lt_of_cell? _ _ c2)).trans c2, (hb.cell (World.block_lt_of_cell? _ _ c3)).trans c3, (hb.cell (World.block_lt_of_cell? _ _ c4)).trans c4⟩

theorem wr_drew {B p : Nat} {g : Option Nat} {w : World} {bs : List Int} {e : Int} (h : Wr B w p g bs e) : Wr B w.drew p g bs e :=
  h.kept (S := fun _ => False) (Kept.refl _ w).drew (fun h => h) (fun _ _ h => h)
theorem Sn.drew {w : World} {v : Value} {bs : List Int} (h : Sn w v bs) : Sn w.drew v bs := h.below (Below.refl _ _).drew

/-- The program's Writer (block p, data g) and the document's (in block q), each its own. -/
structure LS (w0 w : World) (p q : Nat) (g : Option Nat) (ao : Option Addr) (c : Nat) (s t : List Int × Int) : Prop where
  wr : Wr w0.heap.size w p g s.1 s.2
  xb : w.heap[q]? = some (.cells #[.slice ao t.1.length c, .int .i64 t.2] 31 (0, 0))
  sn : Sn w (.slice ao t.1.length c) t.1
  bel : Below w0.heap.size w0 w
  ge : w0.heap.size ≤ p ∧ w0.heap.size ≤ q ∧ p ≠ q ∧ p < w.heap.size ∧ q < w.heap.size
  sep : (∀ k, g = some k → k ≠ q) ∧ ∀ k, (Value.slice ao t.1.length c).ownBlock = some k → k ≠ p ∧ k ≠ q ∧ g ≠ some k ∧ k < w.heap.size

theorem LS.still {w0 w w' : World} {p q : Nat} {g : Option Nat} {ao : Option Addr} {c : Nat} {s t : List Int × Int} (h : LS w0 w p q g ao c s t) (hb : Below w.heap.size w w') : LS w0 w' p q g ao c s t := by
  have hk := Kept.ofBelow hb
  have hz := hb.size
  obtain ⟨g1, g2, g3, g4, g5⟩ := h.ge
  refine ⟨h.wr.kept hk (fun h => h) (fun _ _ h => h), (hb.block q g5).trans h.xb, h.sn.below hb, h.bel.trans (hb.mono (by omega)), ⟨g1, g2, g3, by omega, by omega⟩, h.sep.1, ?_⟩
  intro k hk2
  obtain ⟨a, b, c, d⟩ := h.sep.2 k hk2
  exact ⟨a, b, c, by omega⟩

/-- A step of the program's Writer. -/
theorem LS.lay {w0 w w' : World} {p q : Nat} {g : Option Nat} {ao : Option Addr} {c : Nat} {s t s2 : List Int × Int} (h : LS w0 w p q g ao c s t) (hs : WrStep w0.heap.size p g w w' s2.1 s2.2) : ∃ g', LS w0 w' p q g' ao c s2 t := by
  obtain ⟨g', h1, hg, hk⟩ := hs
  obtain ⟨g1, g2, g3, g4, g5⟩ := h.ge
  have hz := hk.size
  have hlt := h.wr.glt
  refine ⟨g', h1, ?_, h.sn.kept hk ?_, h.bel.trans (hk.below (by omega) ?_), ⟨g1, g2, g3, by omega, by omega⟩, ?_, ?_⟩
  · rw [hk.block q g5 (by rintro (e | e); exact g3 e.symm; exact h.sep.1 q e rfl)]
    exact h.xb
  · rintro k hk2 (e | e)
    · exact (h.sep.2 k hk2).1 e
    · exact (h.sep.2 k hk2).2.2.1 e
  · rintro k hk2 (e | e)
    · omega
    · have := hlt k e; omega
  · intro k e
    rcases hg with rfl | ⟨j, h2, rfl⟩
    · exact h.sep.1 k e
    · injection e with e; omega
  · intro k hk2
    obtain ⟨a, b, cc, d⟩ := h.sep.2 k hk2
    refine ⟨a, b, ?_, by omega⟩
    rcases hg with rfl | ⟨j, h2, rfl⟩
    · exact cc
    · intro e; injection e with e; omega

/-- A step of the document's: the new value stored. -/
theorem LS.laid {w0 w w' : World} {p q : Nat} {g : Option Nat} {ao : Option Addr} {c : Nat} {s t t2 : List Int × Int} (h : LS w0 w p q g ao c s t) {ao2 : Option Addr} {c2 : Nat} (hb : Below w.heap.size w w')
    (hs : Sn w' (.slice ao2 t2.1.length c2) t2.1) (hf : Value.slice ao2 t2.1.length c2 = .slice ao t.1.length c ∨ ∀ k, (Value.slice ao2 t2.1.length c2).ownBlock = some k → w.heap.size ≤ k ∧ k < w'.heap.size) :
    LS w0 ((w'.setCell ⟨q, 0, none⟩ (.slice ao2 t2.1.length c2)).setCell ⟨q, 1, none⟩ (.int .i64 t2.2)) p q g ao2 c2 s t2 := by
  have h2 := h.still hb
  obtain ⟨g1, g2, g3, g4, g5⟩ := h2.ge
  have hk : Kept (fun k => k = q) w' ((w'.setCell ⟨q, 0, none⟩ (.slice ao2 t2.1.length c2)).setCell ⟨q, 1, none⟩ (.int .i64 t2.2)) :=
    ((Kept.refl (fun k => k = q) w').setCell (p := ⟨q, 0, none⟩) (fun _ => rfl) _).setCell (p := ⟨q, 1, none⟩) (fun _ => rfl) _
  have hz := hk.size
  have hz2 := h.ge.2.2.2
  have hgl := h.wr.glt
  refine ⟨h2.wr.kept hk g3 (fun k hk2 e => h2.sep.1 k hk2 e), heap_setCell_same1 (heap_setCell_same h2.xb), ⟨sl_setPair (sl_setPair hs.1 h2.xb 0 _) (heap_setCell_same h2.xb) 1 _, hs.2⟩, h2.bel.trans (hk.below (by omega) (fun k hk2 e => by omega)), ⟨g1, g2, g3, by omega, by omega⟩, h2.sep.1, ?_⟩
  intro k hk2
  rcases hf with e | e
  · rw [e] at hk2
    obtain ⟨a, b, cc, d⟩ := h2.sep.2 k hk2
    exact ⟨a, b, cc, by omega⟩
  · have := e k hk2
    refine ⟨by omega, by omega, ?_, by omega⟩
    intro eg
    have := hgl k eg
    omega

end Go.Proofs.Ytamajeagmkjjbaa
