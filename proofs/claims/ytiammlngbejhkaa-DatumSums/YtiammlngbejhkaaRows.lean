/-
  No cell of these rows narrows 'for every input' (looked for: loops, veiled, ifaces, maps, wideKeys, modest, calm, conditions, laid).
  DERIVED. THE GIVEN ROWS OF THIS SEAT. 6 by the template 'for every input the law returns true; each argument reads behind the call as it read before'; 0 by the template 'total and deterministic' (their statements: YtiammlngbejhkaaTotals.lean).
  GIVEN WITH THE SEED: the statements are not yours to turn. If you find one false, say at which input.
  Laid BY PROGRAM, IN A SANDBOX (cutbox-rows.mjs): the forced cells as the released guide's own fill.sh prints them over the translation c1386bdbff20154c… (all of the seat's roots in one cut). By AI agents, Wed Nov 11 2026. No macro, syntax, notation, axiom, sorry.
-/
import Derived.Test.YtiammlngbejhkaaChecked
import GoSem.Claim
import GoSem.ClaimJoined
import GoSem.ClaimMapViews
import Derived.JoinedTies
import Derived.KernelRfl
namespace Go.Proofs.Ytiammlngbejhkaa
/- THE CELL 'sum', in the pinned program and in every row, IS THE sha256 OF THE DUMP (.gsa) THAT YtiammlngbejhkaaProg.lean LOADS. Nothing in Lean hashes anything: it is a label: what it is worth is what the hold of that sum in a sandbox is worth. -/
noncomputable def Try.pinned : Pinned := { name := "ytiammlngbejhkaa", sum := "c1386bdbff20154cc7821c3565b61d43e91571fd95629799ebfcce248f2090be", checked := Try.checked }
namespace Rows
def none {H : Type} : Left H := { results := [], args := [] }

/-- 'treadlelaw5.DatumPairs': WHATEVER THE INPUT: true; the input reads as it did. -/
def datumPairsSpec : ChangeSpec := { name := "datumPairs", fn := fun _ => fun
  | [d1, d2, d3] => { results := [.lit (.bool true)], args := [d1, d2, d3] }
  | _ => none }
def datumPairsRow : OpenClaim := { program := "ytiammlngbejhkaa", sum := "c1386bdbff20154cc7821c3565b61d43e91571fd95629799ebfcce248f2090be", func := "treadle/treadlelaw5.DatumPairs", spec := "datumPairs", inPlace := ["internal/bytealg.abigen_runtime_cmpstring"], unfollowed := true, recurses := true, apart := false }
def DatumPairsSaid : Prop := datumPairsRow.holds Try.pinned (OpenSpec.ofChange datumPairsSpec)

/-- ITS FALSE NEIGHBOUR: 'it returns false'. Refute it at one input. -/
def datumPairsWrong : ChangeSpec := { name := "datumPairs", fn := fun _ => fun
  | [d1, d2, d3] => { results := [.lit (.bool false)], args := [d1, d2, d3] }
  | _ => none }
def DatumPairsWrongFalsely : Prop := datumPairsRow.holds Try.pinned (OpenSpec.ofChange datumPairsWrong)

/-- 'treadlelaw5.DatumEncodes': WHATEVER THE INPUT: true; the input reads as it did. -/
def datumEncodesSpec : ChangeSpec := { name := "datumEncodes", fn := fun _ => fun
  | [d] => { results := [.lit (.bool true)], args := [d] }
  | _ => none }
def datumEncodesRow : OpenClaim := { program := "ytiammlngbejhkaa", sum := "c1386bdbff20154cc7821c3565b61d43e91571fd95629799ebfcce248f2090be", func := "treadle/treadlelaw5.DatumEncodes", spec := "datumEncodes", inPlace := ["internal/bytealg.abigen_runtime_cmpstring"], unfollowed := true, recurses := true, apart := false }
def DatumEncodesSaid : Prop := datumEncodesRow.holds Try.pinned (OpenSpec.ofChange datumEncodesSpec)

/-- ITS FALSE NEIGHBOUR: 'it returns false'. Refute it at one input. -/
def datumEncodesWrong : ChangeSpec := { name := "datumEncodes", fn := fun _ => fun
  | [d] => { results := [.lit (.bool false)], args := [d] }
  | _ => none }
def DatumEncodesWrongFalsely : Prop := datumEncodesRow.holds Try.pinned (OpenSpec.ofChange datumEncodesWrong)

/-- 'treadlelaw5.DatumDecodes': WHATEVER THE INPUT: true; the input reads as it did. -/
def datumDecodesSpec : ChangeSpec := { name := "datumDecodes", fn := fun _ => fun
  | [d] => { results := [.lit (.bool true)], args := [d] }
  | _ => none }
def datumDecodesRow : OpenClaim := { program := "ytiammlngbejhkaa", sum := "c1386bdbff20154cc7821c3565b61d43e91571fd95629799ebfcce248f2090be", func := "treadle/treadlelaw5.DatumDecodes", spec := "datumDecodes", inPlace := ["internal/bytealg.abigen_runtime_cmpstring"], unfollowed := true, recurses := true, apart := false }
def DatumDecodesSaid : Prop := datumDecodesRow.holds Try.pinned (OpenSpec.ofChange datumDecodesSpec)

/-- ITS FALSE NEIGHBOUR: 'it returns false'. Refute it at one input. -/
def datumDecodesWrong : ChangeSpec := { name := "datumDecodes", fn := fun _ => fun
  | [d] => { results := [.lit (.bool false)], args := [d] }
  | _ => none }
def DatumDecodesWrongFalsely : Prop := datumDecodesRow.holds Try.pinned (OpenSpec.ofChange datumDecodesWrong)

/-- 'treadlelaw5.DatumBack': WHATEVER THE INPUT: true; the input reads as it did. -/
def datumBackSpec : ChangeSpec := { name := "datumBack", fn := fun _ => fun
  | [d1, d2, d3] => { results := [.lit (.bool true)], args := [d1, d2, d3] }
  | _ => none }
def datumBackRow : OpenClaim := { program := "ytiammlngbejhkaa", sum := "c1386bdbff20154cc7821c3565b61d43e91571fd95629799ebfcce248f2090be", func := "treadle/treadlelaw5.DatumBack", spec := "datumBack", inPlace := ["internal/bytealg.abigen_runtime_cmpstring"], unfollowed := true, recurses := true, apart := false }
def DatumBackSaid : Prop := datumBackRow.holds Try.pinned (OpenSpec.ofChange datumBackSpec)

/-- ITS FALSE NEIGHBOUR: 'it returns false'. Refute it at one input. -/
def datumBackWrong : ChangeSpec := { name := "datumBack", fn := fun _ => fun
  | [d1, d2, d3] => { results := [.lit (.bool false)], args := [d1, d2, d3] }
  | _ => none }
def DatumBackWrongFalsely : Prop := datumBackRow.holds Try.pinned (OpenSpec.ofChange datumBackWrong)

/-- 'treadlelaw5.DatumOrder': WHATEVER THE INPUT: true; the input reads as it did. -/
def datumOrderSpec : ChangeSpec := { name := "datumOrder", fn := fun _ => fun
  | [d1, d2, d3] => { results := [.lit (.bool true)], args := [d1, d2, d3] }
  | _ => none }
def datumOrderRow : OpenClaim := { program := "ytiammlngbejhkaa", sum := "c1386bdbff20154cc7821c3565b61d43e91571fd95629799ebfcce248f2090be", func := "treadle/treadlelaw5.DatumOrder", spec := "datumOrder", inPlace := ["internal/bytealg.abigen_runtime_cmpstring"], unfollowed := true, recurses := true, apart := false }
def DatumOrderSaid : Prop := datumOrderRow.holds Try.pinned (OpenSpec.ofChange datumOrderSpec)

/-- ITS FALSE NEIGHBOUR: 'it returns false'. Refute it at one input. -/
def datumOrderWrong : ChangeSpec := { name := "datumOrder", fn := fun _ => fun
  | [d1, d2, d3] => { results := [.lit (.bool false)], args := [d1, d2, d3] }
  | _ => none }
def DatumOrderWrongFalsely : Prop := datumOrderRow.holds Try.pinned (OpenSpec.ofChange datumOrderWrong)

/-- 'treadlelaw5.DatumSums': WHATEVER THE INPUT: true; the input reads as it did. -/
def datumSumsSpec : ChangeSpec := { name := "datumSums", fn := fun _ => fun
  | [d1, d2, d3, d4, d5] => { results := [.lit (.bool true)], args := [d1, d2, d3, d4, d5] }
  | _ => none }
def datumSumsRow : OpenClaim := { program := "ytiammlngbejhkaa", sum := "c1386bdbff20154cc7821c3565b61d43e91571fd95629799ebfcce248f2090be", func := "treadle/treadlelaw5.DatumSums", spec := "datumSums", inPlace := ["internal/bytealg.abigen_runtime_cmpstring"], unfollowed := true, recurses := true, apart := false }
def DatumSumsSaid : Prop := datumSumsRow.holds Try.pinned (OpenSpec.ofChange datumSumsSpec)

/-- ITS FALSE NEIGHBOUR: 'it returns false'. Refute it at one input. -/
def datumSumsWrong : ChangeSpec := { name := "datumSums", fn := fun _ => fun
  | [d1, d2, d3, d4, d5] => { results := [.lit (.bool false)], args := [d1, d2, d3, d4, d5] }
  | _ => none }
def DatumSumsWrongFalsely : Prop := datumSumsRow.holds Try.pinned (OpenSpec.ofChange datumSumsWrong)

/- THE SECOND FORM. 'bulk': how many values and letters a reading holds, each counted each time it is reached (what is shared counts as often as it is met; a slice's spare places count too). A statement '..UptoSaid' is the law's where the arguments, and the package variables that the reading takes, are together of bulk at most 1048576: NARROWER than '..Said'. Prove '..Said' where nothing that the law and all that it calls make is longer than what came in: it says more and counts as full. Else prove '..UptoSaid'. A law counts once. -/
mutual
def uptoBulk {H : Type} : DataW H → Nat
  | .lit (.string bytes) => bytes.length + 1
  | .lit _ => 1
  | .nil => 1
  | .ptr d => uptoBulk d + 1
  | .slice elems spare => uptoBulkAll elems + uptoBulkAll spare + 1
  | .agg parts => uptoBulkAll parts + 1
  | .iface _ d => uptoBulk d + 1
  | .map entries => uptoBulkEntries entries + 1
  | .held _ => 1
def uptoBulkAll {H : Type} : List (DataW H) → Nat
  | [] => 0
  | d :: r => uptoBulk d + uptoBulkAll r
def uptoBulkEntries {H : Type} : List (Lit × DataW H) → Nat
  | [] => 0
  | x :: r => uptoBulkEntry x + uptoBulkEntries r
def uptoBulkEntry {H : Type} : Lit × DataW H → Nat
  | (.string bytes, d) => bytes.length + uptoBulk d + 1
  | (_, d) => uptoBulk d + 1
 end
def uptoSmall : (H : Type) → List (DataW H) → Bool := fun _ ds => decide (uptoBulkAll ds ≤ 1048576)
def OpenSpec.upto (s : _root_.Go.ChangeSpec) : _root_.Go.OpenSpec := { _root_.Go.OpenSpec.ofChange s with cond := some uptoSmall }

/-- 'treadlelaw5.DatumPairs', WHERE WHAT IT READS IS OF BULK AT MOST 1048576: true; the input reads as it did. -/
def datumPairsUptoRow : OpenClaim := { program := "ytiammlngbejhkaa", sum := "c1386bdbff20154cc7821c3565b61d43e91571fd95629799ebfcce248f2090be", func := "treadle/treadlelaw5.DatumPairs", spec := "datumPairs", inPlace := ["internal/bytealg.abigen_runtime_cmpstring"], unfollowed := true, recurses := true, apart := false, narrowed := true }
def DatumPairsUptoSaid : Prop := datumPairsUptoRow.holds Try.pinned (OpenSpec.upto datumPairsSpec)

/-- 'treadlelaw5.DatumEncodes', WHERE WHAT IT READS IS OF BULK AT MOST 1048576: true; the input reads as it did. -/
def datumEncodesUptoRow : OpenClaim := { program := "ytiammlngbejhkaa", sum := "c1386bdbff20154cc7821c3565b61d43e91571fd95629799ebfcce248f2090be", func := "treadle/treadlelaw5.DatumEncodes", spec := "datumEncodes", inPlace := ["internal/bytealg.abigen_runtime_cmpstring"], unfollowed := true, recurses := true, apart := false, narrowed := true }
def DatumEncodesUptoSaid : Prop := datumEncodesUptoRow.holds Try.pinned (OpenSpec.upto datumEncodesSpec)

/-- 'treadlelaw5.DatumDecodes', WHERE WHAT IT READS IS OF BULK AT MOST 1048576: true; the input reads as it did. -/
def datumDecodesUptoRow : OpenClaim := { program := "ytiammlngbejhkaa", sum := "c1386bdbff20154cc7821c3565b61d43e91571fd95629799ebfcce248f2090be", func := "treadle/treadlelaw5.DatumDecodes", spec := "datumDecodes", inPlace := ["internal/bytealg.abigen_runtime_cmpstring"], unfollowed := true, recurses := true, apart := false, narrowed := true }
def DatumDecodesUptoSaid : Prop := datumDecodesUptoRow.holds Try.pinned (OpenSpec.upto datumDecodesSpec)

/-- 'treadlelaw5.DatumBack', WHERE WHAT IT READS IS OF BULK AT MOST 1048576: true; the input reads as it did. -/
def datumBackUptoRow : OpenClaim := { program := "ytiammlngbejhkaa", sum := "c1386bdbff20154cc7821c3565b61d43e91571fd95629799ebfcce248f2090be", func := "treadle/treadlelaw5.DatumBack", spec := "datumBack", inPlace := ["internal/bytealg.abigen_runtime_cmpstring"], unfollowed := true, recurses := true, apart := false, narrowed := true }
def DatumBackUptoSaid : Prop := datumBackUptoRow.holds Try.pinned (OpenSpec.upto datumBackSpec)

/-- 'treadlelaw5.DatumOrder', WHERE WHAT IT READS IS OF BULK AT MOST 1048576: true; the input reads as it did. -/
def datumOrderUptoRow : OpenClaim := { program := "ytiammlngbejhkaa", sum := "c1386bdbff20154cc7821c3565b61d43e91571fd95629799ebfcce248f2090be", func := "treadle/treadlelaw5.DatumOrder", spec := "datumOrder", inPlace := ["internal/bytealg.abigen_runtime_cmpstring"], unfollowed := true, recurses := true, apart := false, narrowed := true }
def DatumOrderUptoSaid : Prop := datumOrderUptoRow.holds Try.pinned (OpenSpec.upto datumOrderSpec)

/-- 'treadlelaw5.DatumSums', WHERE WHAT IT READS IS OF BULK AT MOST 1048576: true; the input reads as it did. -/
def datumSumsUptoRow : OpenClaim := { program := "ytiammlngbejhkaa", sum := "c1386bdbff20154cc7821c3565b61d43e91571fd95629799ebfcce248f2090be", func := "treadle/treadlelaw5.DatumSums", spec := "datumSums", inPlace := ["internal/bytealg.abigen_runtime_cmpstring"], unfollowed := true, recurses := true, apart := false, narrowed := true }
def DatumSumsUptoSaid : Prop := datumSumsUptoRow.holds Try.pinned (OpenSpec.upto datumSumsSpec)

end Rows
end Go.Proofs.Ytiammlngbejhkaa
