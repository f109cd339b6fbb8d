import Derived.Test.YtiammlngbejhkaaK09
import Derived.Deep.Cut
namespace Go.Proofs.Ytiammlngbejhkaa
open Go.RowKit

/-- Within DatumOrder: the three arguments' blocks. -/
structure Ost (w W : World) (a b c : Obj) : Prop where
  ha : W.heap[w.heap.size]? = some a
  hb : W.heap[w.heap.size + 1]? = some b
  hc : W.heap[w.heap.size + 1 + 1]? = some c
  bel : Below w.heap.size w W

theorem Ost.below {w W W' : World} {a b c : Obj} (h : Ost w W a b c) (hb : Below W.heap.size W W') : Ost w W' a b c :=
  ⟨blk_of hb h.ha (lt_of h.ha), blk_of hb h.hb (lt_of h.hb), blk_of hb h.hc (lt_of h.hc), below_on h.bel hb⟩

theorem Ost.mk' (w : World) (a b c : Obj) : Ost w (((w.alloc a).alloc b).alloc c) a b c :=
  ⟨(three w a b c).1, (three w a b c).2.1, (three w a b c).2.2.1, (three w a b c).2.2.2⟩

end Go.Proofs.Ytiammlngbejhkaa
