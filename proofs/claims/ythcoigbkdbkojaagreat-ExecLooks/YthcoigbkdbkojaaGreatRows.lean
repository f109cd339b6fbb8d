/-
  No cell of these rows narrows 'for every input' (looked for: loops, veiled, ifaces, maps, wideKeys, modest, calm, conditions, laid).
  DERIVED. THE GIVEN ROWS OF THIS SEAT. 6 by the template 'for every input the law returns true; each argument reads behind the call as it read before'; 0 by the template 'total and deterministic' (their statements: YthcoigbkdbkojaaGreatTotals.lean).
  GIVEN WITH THE SEED: the statements are not yours to turn. If you find one false, say at which input.
  Laid BY PROGRAM, IN A SANDBOX (cutbox-rows.mjs): the forced cells as the released guide's own fill.sh prints them over the translation 301af816bb31041c… (all of the seat's roots in one cut). By AI agents, Wed Nov 11 2026. No macro, syntax, notation, axiom, sorry.
-/
import Derived.Test.YthcoigbkdbkojaaGreatChecked
import GoSem.Claim
import GoSem.ClaimJoined
import GoSem.ClaimMapViews
import Derived.JoinedTies
import Derived.KernelRfl
namespace Go.Proofs.YthcoigbkdbkojaaGreat
/- THE CELL 'sum', in the pinned program and in every row, IS THE sha256 OF THE DUMP (.gsa) THAT YthcoigbkdbkojaaGreatProg.lean LOADS. Nothing in Lean hashes anything: it is a label: what it is worth is what the hold of that sum in a sandbox is worth. -/
noncomputable def Tryz.pinned : Pinned := { name := "ythcoigbkdbkojaagreat", sum := "301af816bb31041c371a0ce5112a9badf03b062a8e3f03f93bb9b9b41235b32f", checked := Tryz.checked }
namespace Rows
def none {H : Type} : Left H := { results := [], args := [] }

/-- 'treadlelaw10.ExecRuns': WHATEVER THE INPUT: true; the input reads as it did. -/
def execRunsSpec : ChangeSpec := { name := "execRuns", fn := fun _ => fun
  | [d1, d2, d3, d4, d5, d6] => { results := [.lit (.bool true)], args := [d1, d2, d3, d4, d5, d6] }
  | _ => none }
def execRunsRow : OpenClaim := { program := "ythcoigbkdbkojaagreat", sum := "301af816bb31041c371a0ce5112a9badf03b062a8e3f03f93bb9b9b41235b32f", func := "treadle/treadlelaw10.ExecRuns", spec := "execRuns", inPlace := ["internal/bytealg.abigen_runtime_cmpstring"], unfollowed := true, recurses := true, apart := false }
def ExecRunsSaid : Prop := execRunsRow.holds Tryz.pinned (OpenSpec.ofChange execRunsSpec)

/-- ITS FALSE NEIGHBOUR: 'it returns false'. Refute it at one input. -/
def execRunsWrong : ChangeSpec := { name := "execRuns", fn := fun _ => fun
  | [d1, d2, d3, d4, d5, d6] => { results := [.lit (.bool false)], args := [d1, d2, d3, d4, d5, d6] }
  | _ => none }
def ExecRunsWrongFalsely : Prop := execRunsRow.holds Tryz.pinned (OpenSpec.ofChange execRunsWrong)

/-- 'treadlelaw10.ExecNothing': WHATEVER THE INPUT: true; the input reads as it did. -/
def execNothingSpec : ChangeSpec := { name := "execNothing", fn := fun _ => fun
  | [d1, d2] => { results := [.lit (.bool true)], args := [d1, d2] }
  | _ => none }
def execNothingRow : OpenClaim := { program := "ythcoigbkdbkojaagreat", sum := "301af816bb31041c371a0ce5112a9badf03b062a8e3f03f93bb9b9b41235b32f", func := "treadle/treadlelaw10.ExecNothing", spec := "execNothing", inPlace := ["internal/bytealg.abigen_runtime_cmpstring"], unfollowed := true, recurses := true, apart := false }
def ExecNothingSaid : Prop := execNothingRow.holds Tryz.pinned (OpenSpec.ofChange execNothingSpec)

/-- ITS FALSE NEIGHBOUR: 'it returns false'. Refute it at one input. -/
def execNothingWrong : ChangeSpec := { name := "execNothing", fn := fun _ => fun
  | [d1, d2] => { results := [.lit (.bool false)], args := [d1, d2] }
  | _ => none }
def ExecNothingWrongFalsely : Prop := execNothingRow.holds Tryz.pinned (OpenSpec.ofChange execNothingWrong)

/-- 'treadlelaw10.ExecFollows': WHATEVER THE INPUT: true; the input reads as it did. -/
def execFollowsSpec : ChangeSpec := { name := "execFollows", fn := fun _ => fun
  | [d1, d2, d3] => { results := [.lit (.bool true)], args := [d1, d2, d3] }
  | _ => none }
def execFollowsRow : OpenClaim := { program := "ythcoigbkdbkojaagreat", sum := "301af816bb31041c371a0ce5112a9badf03b062a8e3f03f93bb9b9b41235b32f", func := "treadle/treadlelaw10.ExecFollows", spec := "execFollows", inPlace := ["internal/bytealg.abigen_runtime_cmpstring"], unfollowed := true, recurses := true, apart := false }
def ExecFollowsSaid : Prop := execFollowsRow.holds Tryz.pinned (OpenSpec.ofChange execFollowsSpec)

/-- ITS FALSE NEIGHBOUR: 'it returns false'. Refute it at one input. -/
def execFollowsWrong : ChangeSpec := { name := "execFollows", fn := fun _ => fun
  | [d1, d2, d3] => { results := [.lit (.bool false)], args := [d1, d2, d3] }
  | _ => none }
def ExecFollowsWrongFalsely : Prop := execFollowsRow.holds Tryz.pinned (OpenSpec.ofChange execFollowsWrong)

/-- 'treadlelaw10.ExecLooks': WHATEVER THE INPUT: true; the input reads as it did. -/
def execLooksSpec : ChangeSpec := { name := "execLooks", fn := fun _ => fun
  | [d1, d2, d3, d4] => { results := [.lit (.bool true)], args := [d1, d2, d3, d4] }
  | _ => none }
def execLooksRow : OpenClaim := { program := "ythcoigbkdbkojaagreat", sum := "301af816bb31041c371a0ce5112a9badf03b062a8e3f03f93bb9b9b41235b32f", func := "treadle/treadlelaw10.ExecLooks", spec := "execLooks", inPlace := ["internal/bytealg.abigen_runtime_cmpstring"], unfollowed := true, recurses := true, apart := false }
def ExecLooksSaid : Prop := execLooksRow.holds Tryz.pinned (OpenSpec.ofChange execLooksSpec)

/-- ITS FALSE NEIGHBOUR: 'it returns false'. Refute it at one input. -/
def execLooksWrong : ChangeSpec := { name := "execLooks", fn := fun _ => fun
  | [d1, d2, d3, d4] => { results := [.lit (.bool false)], args := [d1, d2, d3, d4] }
  | _ => none }
def ExecLooksWrongFalsely : Prop := execLooksRow.holds Tryz.pinned (OpenSpec.ofChange execLooksWrong)

/-- 'treadlelaw10.ExecEnds': WHATEVER THE INPUT: true; the input reads as it did. -/
def execEndsSpec : ChangeSpec := { name := "execEnds", fn := fun _ => fun
  | [d1, d2, d3] => { results := [.lit (.bool true)], args := [d1, d2, d3] }
  | _ => none }
def execEndsRow : OpenClaim := { program := "ythcoigbkdbkojaagreat", sum := "301af816bb31041c371a0ce5112a9badf03b062a8e3f03f93bb9b9b41235b32f", func := "treadle/treadlelaw10.ExecEnds", spec := "execEnds", inPlace := ["internal/bytealg.abigen_runtime_cmpstring"], unfollowed := true, recurses := true, apart := false }
def ExecEndsSaid : Prop := execEndsRow.holds Tryz.pinned (OpenSpec.ofChange execEndsSpec)

/-- ITS FALSE NEIGHBOUR: 'it returns false'. Refute it at one input. -/
def execEndsWrong : ChangeSpec := { name := "execEnds", fn := fun _ => fun
  | [d1, d2, d3] => { results := [.lit (.bool false)], args := [d1, d2, d3] }
  | _ => none }
def ExecEndsWrongFalsely : Prop := execEndsRow.holds Tryz.pinned (OpenSpec.ofChange execEndsWrong)

/-- 'treadlelaw10.ExecMoves': WHATEVER THE INPUT: true; the input reads as it did. -/
def execMovesSpec : ChangeSpec := { name := "execMoves", fn := fun _ => fun
  | [d1, d2, d3, d4, d5] => { results := [.lit (.bool true)], args := [d1, d2, d3, d4, d5] }
  | _ => none }
def execMovesRow : OpenClaim := { program := "ythcoigbkdbkojaagreat", sum := "301af816bb31041c371a0ce5112a9badf03b062a8e3f03f93bb9b9b41235b32f", func := "treadle/treadlelaw10.ExecMoves", spec := "execMoves", inPlace := ["internal/bytealg.abigen_runtime_cmpstring"], unfollowed := true, recurses := true, apart := false }
def ExecMovesSaid : Prop := execMovesRow.holds Tryz.pinned (OpenSpec.ofChange execMovesSpec)

/-- ITS FALSE NEIGHBOUR: 'it returns false'. Refute it at one input. -/
def execMovesWrong : ChangeSpec := { name := "execMoves", fn := fun _ => fun
  | [d1, d2, d3, d4, d5] => { results := [.lit (.bool false)], args := [d1, d2, d3, d4, d5] }
  | _ => none }
def ExecMovesWrongFalsely : Prop := execMovesRow.holds Tryz.pinned (OpenSpec.ofChange execMovesWrong)

/- THE SECOND FORM. 'bulk': how many values and letters a reading holds, each counted each time it is reached (what is shared counts as often as it is met; a slice's spare places count too). A statement '..UptoSaid' is the law's where the arguments, and the package variables that the reading takes, are together of bulk at most 1048576: NARROWER than '..Said'. Prove '..Said' where nothing that the law and all that it calls make is longer than what came in: it says more and counts as full. Else prove '..UptoSaid'. A law counts once. -/
mutual
def uptoBulk {H : Type} : DataW H → Nat
  | .lit (.string bytes) => bytes.length + 1
  | .lit _ => 1
  | .nil => 1
  | .ptr d => uptoBulk d + 1
  | .slice elems spare => uptoBulkAll elems + uptoBulkAll spare + 1
  | .agg parts => uptoBulkAll parts + 1
  | .iface _ d => uptoBulk d + 1
  | .map entries => uptoBulkEntries entries + 1
  | .held _ => 1
def uptoBulkAll {H : Type} : List (DataW H) → Nat
  | [] => 0
  | d :: r => uptoBulk d + uptoBulkAll r
def uptoBulkEntries {H : Type} : List (Lit × DataW H) → Nat
  | [] => 0
  | x :: r => uptoBulkEntry x + uptoBulkEntries r
def uptoBulkEntry {H : Type} : Lit × DataW H → Nat
  | (.string bytes, d) => bytes.length + uptoBulk d + 1
  | (_, d) => uptoBulk d + 1
 end
def uptoSmall : (H : Type) → List (DataW H) → Bool := fun _ ds => decide (uptoBulkAll ds ≤ 1048576)
def OpenSpec.upto (s : _root_.Go.ChangeSpec) : _root_.Go.OpenSpec := { _root_.Go.OpenSpec.ofChange s with cond := some uptoSmall }

/-- 'treadlelaw10.ExecRuns', WHERE WHAT IT READS IS OF BULK AT MOST 1048576: true; the input reads as it did. -/
def execRunsUptoRow : OpenClaim := { program := "ythcoigbkdbkojaagreat", sum := "301af816bb31041c371a0ce5112a9badf03b062a8e3f03f93bb9b9b41235b32f", func := "treadle/treadlelaw10.ExecRuns", spec := "execRuns", inPlace := ["internal/bytealg.abigen_runtime_cmpstring"], unfollowed := true, recurses := true, apart := false, narrowed := true }
def ExecRunsUptoSaid : Prop := execRunsUptoRow.holds Tryz.pinned (OpenSpec.upto execRunsSpec)

/-- 'treadlelaw10.ExecNothing', WHERE WHAT IT READS IS OF BULK AT MOST 1048576: true; the input reads as it did. -/
def execNothingUptoRow : OpenClaim := { program := "ythcoigbkdbkojaagreat", sum := "301af816bb31041c371a0ce5112a9badf03b062a8e3f03f93bb9b9b41235b32f", func := "treadle/treadlelaw10.ExecNothing", spec := "execNothing", inPlace := ["internal/bytealg.abigen_runtime_cmpstring"], unfollowed := true, recurses := true, apart := false, narrowed := true }
def ExecNothingUptoSaid : Prop := execNothingUptoRow.holds Tryz.pinned (OpenSpec.upto execNothingSpec)

/-- 'treadlelaw10.ExecFollows', WHERE WHAT IT READS IS OF BULK AT MOST 1048576: true; the input reads as it did. -/
def execFollowsUptoRow : OpenClaim := { program := "ythcoigbkdbkojaagreat", sum := "301af816bb31041c371a0ce5112a9badf03b062a8e3f03f93bb9b9b41235b32f", func := "treadle/treadlelaw10.ExecFollows", spec := "execFollows", inPlace := ["internal/bytealg.abigen_runtime_cmpstring"], unfollowed := true, recurses := true, apart := false, narrowed := true }
def ExecFollowsUptoSaid : Prop := execFollowsUptoRow.holds Tryz.pinned (OpenSpec.upto execFollowsSpec)

/-- 'treadlelaw10.ExecLooks', WHERE WHAT IT READS IS OF BULK AT MOST 1048576: true; the input reads as it did. -/
def execLooksUptoRow : OpenClaim := { program := "ythcoigbkdbkojaagreat", sum := "301af816bb31041c371a0ce5112a9badf03b062a8e3f03f93bb9b9b41235b32f", func := "treadle/treadlelaw10.ExecLooks", spec := "execLooks", inPlace := ["internal/bytealg.abigen_runtime_cmpstring"], unfollowed := true, recurses := true, apart := false, narrowed := true }
def ExecLooksUptoSaid : Prop := execLooksUptoRow.holds Tryz.pinned (OpenSpec.upto execLooksSpec)

/-- 'treadlelaw10.ExecEnds', WHERE WHAT IT READS IS OF BULK AT MOST 1048576: true; the input reads as it did. -/
def execEndsUptoRow : OpenClaim := { program := "ythcoigbkdbkojaagreat", sum := "301af816bb31041c371a0ce5112a9badf03b062a8e3f03f93bb9b9b41235b32f", func := "treadle/treadlelaw10.ExecEnds", spec := "execEnds", inPlace := ["internal/bytealg.abigen_runtime_cmpstring"], unfollowed := true, recurses := true, apart := false, narrowed := true }
def ExecEndsUptoSaid : Prop := execEndsUptoRow.holds Tryz.pinned (OpenSpec.upto execEndsSpec)

/-- 'treadlelaw10.ExecMoves', WHERE WHAT IT READS IS OF BULK AT MOST 1048576: true; the input reads as it did. -/
def execMovesUptoRow : OpenClaim := { program := "ythcoigbkdbkojaagreat", sum := "301af816bb31041c371a0ce5112a9badf03b062a8e3f03f93bb9b9b41235b32f", func := "treadle/treadlelaw10.ExecMoves", spec := "execMoves", inPlace := ["internal/bytealg.abigen_runtime_cmpstring"], unfollowed := true, recurses := true, apart := false, narrowed := true }
def ExecMovesUptoSaid : Prop := execMovesUptoRow.holds Tryz.pinned (OpenSpec.upto execMovesSpec)

end Rows
end Go.Proofs.YthcoigbkdbkojaaGreat
