import Derived.Test.YtamajeagmkjjbaaBack8
import Derived.Test.YtamajeagmkjjbaaB2
import Derived.Test.YtamajeagmkjjbaaKnown
namespace Go.Proofs.Ytamajeagmkjjbaa
open Go.RowKit

theorem ltBlock {w : World} {p : Nat} {o : Obj} (h : w.heap[p]? = some o) : p < w.heap.size := (Array.getElem?_eq_some_iff.1 h).1

theorem drawnBelow {w w' : World} (hd : ∃ nq, w' = w.drewN nq) (B : Nat) : Below B w w' := by
  obtain ⟨nq, rfl⟩ := hd
  exact below_drewN _ _ _

theorem tkB (p : Nat) (g : Option Nat) (bs : List Int) (a : Nat) (e : Int) (w : World) (x : It) (h : Rd w p g bs a e) (hp : p < w.heap.size) (hx : x.ok) (u i : Int) (s : List Int) (a2 : Nat) (e2 : Int) (hz : itZ x bs a e = ((u, i, s), a2, e2)) :
    Calls Try.prog 19 #[.pointer (some ⟨p, 0, none⟩), .agg #[.int .i64 x.kind, .int .i64 x.n, .int .u64 x.u, .int .i64 x.i, .string x.s]] w fun y w' => y = .returned (.agg #[.int .u64 u, .int .i64 i, .string (mkStr s)]) ∧ RdStep p g w w' bs a2 e2 := by
  have := tk_any p g bs a e w x h hp hx
  rw [hz] at this
  exact this

theorem bytesEq (a b : Value) (xs : List Int) (w : World) (ha : Sl w a xs) (hb : Sl w b xs) (hl : xs.length ≤ 1000000000) :
    Calls Try.prog 13 #[a, b] w fun x w' => (∃ nq, w' = w.drewN nq) ∧ x = .returned (.bool true) := by
  have := bytes_any a b xs xs w ha hb hl
  rwa [show decide (xs = xs) = true by simp] at this

end Go.Proofs.Ytamajeagmkjjbaa
