/-
  No cell of these rows narrows 'for every input' (looked for: loops, veiled, ifaces, maps, wideKeys, modest, calm, conditions, laid).
  DERIVED. THE GIVEN ROWS OF THIS SEAT. 3 by the template 'for every input the law returns true; each argument reads behind the call as it read before'; 0 by the template 'total and deterministic' (their statements: YtkalppcekmlgbabTotals.lean).
  GIVEN WITH THE SEED: the statements are not yours to turn. If you find one false, say at which input.
  Laid BY PROGRAM, IN A SANDBOX (cutbox-rows.mjs): the forced cells as the released guide's own fill.sh prints them over the translation de64dfdee703df4f… (all of the seat's roots in one cut). By AI agents, Wed Nov 11 2026. No macro, syntax, notation, axiom, sorry.
-/
import Derived.Test.YtkalppcekmlgbabChecked
import GoSem.Claim
import GoSem.ClaimJoined
import GoSem.ClaimMapViews
import Derived.JoinedTies
import Derived.KernelRfl
namespace Go.Proofs.Ytkalppcekmlgbab
/- THE CELL 'sum', in the pinned program and in every row, IS THE sha256 OF THE DUMP (.gsa) THAT YtkalppcekmlgbabProg.lean LOADS. Nothing in Lean hashes anything: it is a label: what it is worth is what the hold of that sum in a sandbox is worth. -/
noncomputable def Try.pinned : Pinned := { name := "ytkalppcekmlgbab", sum := "de64dfdee703df4f2c5256654b36ee7abce51d747fa57960b6f4ad0602165696", checked := Try.checked }
namespace Rows
def none {H : Type} : Left H := { results := [], args := [] }

/-- 'treadlelaw8.TableSpan': WHATEVER THE INPUT: true; the input reads as it did. -/
def tableSpanSpec : ChangeSpec := { name := "tableSpan", fn := fun _ => fun
  | [d1, d2, d3] => { results := [.lit (.bool true)], args := [d1, d2, d3] }
  | _ => none }
def tableSpanRow : OpenClaim := { program := "ytkalppcekmlgbab", sum := "de64dfdee703df4f2c5256654b36ee7abce51d747fa57960b6f4ad0602165696", func := "treadle/treadlelaw8.TableSpan", spec := "tableSpan", inPlace := ["internal/bytealg.abigen_runtime_cmpstring"], unfollowed := true, recurses := true, apart := false }
def TableSpanSaid : Prop := tableSpanRow.holds Try.pinned (OpenSpec.ofChange tableSpanSpec)

/-- ITS FALSE NEIGHBOUR: 'it returns false'. Refute it at one input. -/
def tableSpanWrong : ChangeSpec := { name := "tableSpan", fn := fun _ => fun
  | [d1, d2, d3] => { results := [.lit (.bool false)], args := [d1, d2, d3] }
  | _ => none }
def TableSpanWrongFalsely : Prop := tableSpanRow.holds Try.pinned (OpenSpec.ofChange tableSpanWrong)

/-- 'treadlelaw8.TableKeeps': WHATEVER THE INPUT: true; the input reads as it did. -/
def tableKeepsSpec : ChangeSpec := { name := "tableKeeps", fn := fun _ => fun
  | [d1, d2, d3] => { results := [.lit (.bool true)], args := [d1, d2, d3] }
  | _ => none }
def tableKeepsRow : OpenClaim := { program := "ytkalppcekmlgbab", sum := "de64dfdee703df4f2c5256654b36ee7abce51d747fa57960b6f4ad0602165696", func := "treadle/treadlelaw8.TableKeeps", spec := "tableKeeps", inPlace := ["internal/bytealg.abigen_runtime_cmpstring"], unfollowed := true, recurses := true, apart := false }
def TableKeepsSaid : Prop := tableKeepsRow.holds Try.pinned (OpenSpec.ofChange tableKeepsSpec)

/-- ITS FALSE NEIGHBOUR: 'it returns false'. Refute it at one input. -/
def tableKeepsWrong : ChangeSpec := { name := "tableKeeps", fn := fun _ => fun
  | [d1, d2, d3] => { results := [.lit (.bool false)], args := [d1, d2, d3] }
  | _ => none }
def TableKeepsWrongFalsely : Prop := tableKeepsRow.holds Try.pinned (OpenSpec.ofChange tableKeepsWrong)

/-- 'treadlelaw8.TableSteady': WHATEVER THE INPUT: true; the input reads as it did. -/
def tableSteadySpec : ChangeSpec := { name := "tableSteady", fn := fun _ => fun
  | [d1, d2, d3] => { results := [.lit (.bool true)], args := [d1, d2, d3] }
  | _ => none }
def tableSteadyRow : OpenClaim := { program := "ytkalppcekmlgbab", sum := "de64dfdee703df4f2c5256654b36ee7abce51d747fa57960b6f4ad0602165696", func := "treadle/treadlelaw8.TableSteady", spec := "tableSteady", inPlace := ["internal/bytealg.abigen_runtime_cmpstring"], unfollowed := true, recurses := true, apart := false }
def TableSteadySaid : Prop := tableSteadyRow.holds Try.pinned (OpenSpec.ofChange tableSteadySpec)

/-- ITS FALSE NEIGHBOUR: 'it returns false'. Refute it at one input. -/
def tableSteadyWrong : ChangeSpec := { name := "tableSteady", fn := fun _ => fun
  | [d1, d2, d3] => { results := [.lit (.bool false)], args := [d1, d2, d3] }
  | _ => none }
def TableSteadyWrongFalsely : Prop := tableSteadyRow.holds Try.pinned (OpenSpec.ofChange tableSteadyWrong)

/- THE SECOND FORM. 'bulk': how many values and letters a reading holds, each counted each time it is reached (what is shared counts as often as it is met; a slice's spare places count too). A statement '..UptoSaid' is the law's where the arguments, and the package variables that the reading takes, are together of bulk at most 1048576: NARROWER than '..Said'. Prove '..Said' where nothing that the law and all that it calls make is longer than what came in: it says more and counts as full. Else prove '..UptoSaid'. A law counts once. -/
mutual
def uptoBulk {H : Type} : DataW H → Nat
  | .lit (.string bytes) => bytes.length + 1
  | .lit _ => 1
  | .nil => 1
  | .ptr d => uptoBulk d + 1
  | .slice elems spare => uptoBulkAll elems + uptoBulkAll spare + 1
  | .agg parts => uptoBulkAll parts + 1
  | .iface _ d => uptoBulk d + 1
  | .map entries => uptoBulkEntries entries + 1
  | .held _ => 1
def uptoBulkAll {H : Type} : List (DataW H) → Nat
  | [] => 0
  | d :: r => uptoBulk d + uptoBulkAll r
def uptoBulkEntries {H : Type} : List (Lit × DataW H) → Nat
  | [] => 0
  | x :: r => uptoBulkEntry x + uptoBulkEntries r
def uptoBulkEntry {H : Type} : Lit × DataW H → Nat
  | (.string bytes, d) => bytes.length + uptoBulk d + 1
  | (_, d) => uptoBulk d + 1
 end
def uptoSmall : (H : Type) → List (DataW H) → Bool := fun _ ds => decide (uptoBulkAll ds ≤ 1048576)
def OpenSpec.upto (s : _root_.Go.ChangeSpec) : _root_.Go.OpenSpec := { _root_.Go.OpenSpec.ofChange s with cond := some uptoSmall }

/-- 'treadlelaw8.TableSpan', WHERE WHAT IT READS IS OF BULK AT MOST 1048576: true; the input reads as it did. -/
def tableSpanUptoRow : OpenClaim := { program := "ytkalppcekmlgbab", sum := "de64dfdee703df4f2c5256654b36ee7abce51d747fa57960b6f4ad0602165696", func := "treadle/treadlelaw8.TableSpan", spec := "tableSpan", inPlace := ["internal/bytealg.abigen_runtime_cmpstring"], unfollowed := true, recurses := true, apart := false, narrowed := true }
def TableSpanUptoSaid : Prop := tableSpanUptoRow.holds Try.pinned (OpenSpec.upto tableSpanSpec)

/-- 'treadlelaw8.TableKeeps', WHERE WHAT IT READS IS OF BULK AT MOST 1048576: true; the input reads as it did. -/
def tableKeepsUptoRow : OpenClaim := { program := "ytkalppcekmlgbab", sum := "de64dfdee703df4f2c5256654b36ee7abce51d747fa57960b6f4ad0602165696", func := "treadle/treadlelaw8.TableKeeps", spec := "tableKeeps", inPlace := ["internal/bytealg.abigen_runtime_cmpstring"], unfollowed := true, recurses := true, apart := false, narrowed := true }
def TableKeepsUptoSaid : Prop := tableKeepsUptoRow.holds Try.pinned (OpenSpec.upto tableKeepsSpec)

/-- 'treadlelaw8.TableSteady', WHERE WHAT IT READS IS OF BULK AT MOST 1048576: true; the input reads as it did. -/
def tableSteadyUptoRow : OpenClaim := { program := "ytkalppcekmlgbab", sum := "de64dfdee703df4f2c5256654b36ee7abce51d747fa57960b6f4ad0602165696", func := "treadle/treadlelaw8.TableSteady", spec := "tableSteady", inPlace := ["internal/bytealg.abigen_runtime_cmpstring"], unfollowed := true, recurses := true, apart := false, narrowed := true }
def TableSteadyUptoSaid : Prop := tableSteadyUptoRow.holds Try.pinned (OpenSpec.upto tableSteadySpec)

end Rows
end Go.Proofs.Ytkalppcekmlgbab
