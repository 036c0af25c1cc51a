/-
  No cell of these rows narrows 'for every input' (looked for: loops, veiled, ifaces, maps, wideKeys, modest, calm, conditions, laid).
  DERIVED. THE GIVEN ROWS OF THIS SEAT. 6 by the template 'for every input the law returns true; each argument reads behind the call as it read before'; 0 by the template 'total and deterministic' (their statements: YthphileaaoeamaaTotals.lean).
  GIVEN WITH THE SEED: the statements are not yours to turn. If you find one false, say at which input.
  Laid BY PROGRAM, IN A SANDBOX (cutbox-rows.mjs): the forced cells as the released guide's own fill.sh prints them over the translation e68549d50cc901d9… (all of the seat's roots in one cut). By AI agents, Wed Nov 11 2026. No macro, syntax, notation, axiom, sorry.
-/
import Derived.Test.YthphileaaoeamaaChecked
import GoSem.Claim
import GoSem.ClaimJoined
import GoSem.ClaimMapViews
import Derived.JoinedTies
import Derived.KernelRfl
namespace Go.Proofs.Ythphileaaoeamaa
/- THE CELL 'sum', in the pinned program and in every row, IS THE sha256 OF THE DUMP (.gsa) THAT YthphileaaoeamaaProg.lean LOADS. Nothing in Lean hashes anything: it is a label: what it is worth is what the hold of that sum in a sandbox is worth. -/
noncomputable def Try.pinned : Pinned := { name := "ythphileaaoeamaa", sum := "e68549d50cc901d9ff44de468db95c83a669231199ed930e81a601dcbd2678ef", checked := Try.checked }
namespace Rows
def none {H : Type} : Left H := { results := [], args := [] }

/-- 'dolelaw13.FifoPlays': WHATEVER THE INPUT: true; the input reads as it did. -/
def fifoPlaysSpec : ChangeSpec := { name := "fifoPlays", fn := fun _ => fun
  | [d] => { results := [.lit (.bool true)], args := [d] }
  | _ => none }
def fifoPlaysRow : OpenClaim := { program := "ythphileaaoeamaa", sum := "e68549d50cc901d9ff44de468db95c83a669231199ed930e81a601dcbd2678ef", func := "dole/dolelaw13.FifoPlays", spec := "fifoPlays", apart := false }
def FifoPlaysSaid : Prop := fifoPlaysRow.holds Try.pinned (OpenSpec.ofChange fifoPlaysSpec)

/-- ITS FALSE NEIGHBOUR: 'it returns false'. Refute it at one input. -/
def fifoPlaysWrong : ChangeSpec := { name := "fifoPlays", fn := fun _ => fun
  | [d] => { results := [.lit (.bool false)], args := [d] }
  | _ => none }
def FifoPlaysWrongFalsely : Prop := fifoPlaysRow.holds Try.pinned (OpenSpec.ofChange fifoPlaysWrong)

/-- 'dolelaw13.FifoGives': WHATEVER THE INPUT: true; the input reads as it did. -/
def fifoGivesSpec : ChangeSpec := { name := "fifoGives", fn := fun _ => fun
  | [d1, d2, d3] => { results := [.lit (.bool true)], args := [d1, d2, d3] }
  | _ => none }
def fifoGivesRow : OpenClaim := { program := "ythphileaaoeamaa", sum := "e68549d50cc901d9ff44de468db95c83a669231199ed930e81a601dcbd2678ef", func := "dole/dolelaw13.FifoGives", spec := "fifoGives", apart := false }
def FifoGivesSaid : Prop := fifoGivesRow.holds Try.pinned (OpenSpec.ofChange fifoGivesSpec)

/-- ITS FALSE NEIGHBOUR: 'it returns false'. Refute it at one input. -/
def fifoGivesWrong : ChangeSpec := { name := "fifoGives", fn := fun _ => fun
  | [d1, d2, d3] => { results := [.lit (.bool false)], args := [d1, d2, d3] }
  | _ => none }
def FifoGivesWrongFalsely : Prop := fifoGivesRow.holds Try.pinned (OpenSpec.ofChange fifoGivesWrong)

/-- 'dolelaw13.FifoTurns': WHATEVER THE INPUT: true; the input reads as it did. -/
def fifoTurnsSpec : ChangeSpec := { name := "fifoTurns", fn := fun _ => fun
  | [d] => { results := [.lit (.bool true)], args := [d] }
  | _ => none }
def fifoTurnsRow : OpenClaim := { program := "ythphileaaoeamaa", sum := "e68549d50cc901d9ff44de468db95c83a669231199ed930e81a601dcbd2678ef", func := "dole/dolelaw13.FifoTurns", spec := "fifoTurns", apart := false }
def FifoTurnsSaid : Prop := fifoTurnsRow.holds Try.pinned (OpenSpec.ofChange fifoTurnsSpec)

/-- ITS FALSE NEIGHBOUR: 'it returns false'. Refute it at one input. -/
def fifoTurnsWrong : ChangeSpec := { name := "fifoTurns", fn := fun _ => fun
  | [d] => { results := [.lit (.bool false)], args := [d] }
  | _ => none }
def FifoTurnsWrongFalsely : Prop := fifoTurnsRow.holds Try.pinned (OpenSpec.ofChange fifoTurnsWrong)

/-- 'dolelaw13.FifoLeft': WHATEVER THE INPUT: true; the input reads as it did. -/
def fifoLeftSpec : ChangeSpec := { name := "fifoLeft", fn := fun _ => fun
  | [d1, d2, d3] => { results := [.lit (.bool true)], args := [d1, d2, d3] }
  | _ => none }
def fifoLeftRow : OpenClaim := { program := "ythphileaaoeamaa", sum := "e68549d50cc901d9ff44de468db95c83a669231199ed930e81a601dcbd2678ef", func := "dole/dolelaw13.FifoLeft", spec := "fifoLeft", apart := false }
def FifoLeftSaid : Prop := fifoLeftRow.holds Try.pinned (OpenSpec.ofChange fifoLeftSpec)

/-- ITS FALSE NEIGHBOUR: 'it returns false'. Refute it at one input. -/
def fifoLeftWrong : ChangeSpec := { name := "fifoLeft", fn := fun _ => fun
  | [d1, d2, d3] => { results := [.lit (.bool false)], args := [d1, d2, d3] }
  | _ => none }
def FifoLeftWrongFalsely : Prop := fifoLeftRow.holds Try.pinned (OpenSpec.ofChange fifoLeftWrong)

/-- 'dolelaw13.FifoSlices': WHATEVER THE INPUT: true; the input reads as it did. -/
def fifoSlicesSpec : ChangeSpec := { name := "fifoSlices", fn := fun _ => fun
  | [d1, d2, d3] => { results := [.lit (.bool true)], args := [d1, d2, d3] }
  | _ => none }
def fifoSlicesRow : OpenClaim := { program := "ythphileaaoeamaa", sum := "e68549d50cc901d9ff44de468db95c83a669231199ed930e81a601dcbd2678ef", func := "dole/dolelaw13.FifoSlices", spec := "fifoSlices", apart := false }
def FifoSlicesSaid : Prop := fifoSlicesRow.holds Try.pinned (OpenSpec.ofChange fifoSlicesSpec)

/-- ITS FALSE NEIGHBOUR: 'it returns false'. Refute it at one input. -/
def fifoSlicesWrong : ChangeSpec := { name := "fifoSlices", fn := fun _ => fun
  | [d1, d2, d3] => { results := [.lit (.bool false)], args := [d1, d2, d3] }
  | _ => none }
def FifoSlicesWrongFalsely : Prop := fifoSlicesRow.holds Try.pinned (OpenSpec.ofChange fifoSlicesWrong)

/-- 'dolelaw13.FifoFull': WHATEVER THE INPUT: true; the input reads as it did. -/
def fifoFullSpec : ChangeSpec := { name := "fifoFull", fn := fun _ => fun
  | [d1, d2] => { results := [.lit (.bool true)], args := [d1, d2] }
  | _ => none }
def fifoFullRow : OpenClaim := { program := "ythphileaaoeamaa", sum := "e68549d50cc901d9ff44de468db95c83a669231199ed930e81a601dcbd2678ef", func := "dole/dolelaw13.FifoFull", spec := "fifoFull", apart := false }
def FifoFullSaid : Prop := fifoFullRow.holds Try.pinned (OpenSpec.ofChange fifoFullSpec)

/-- ITS FALSE NEIGHBOUR: 'it returns false'. Refute it at one input. -/
def fifoFullWrong : ChangeSpec := { name := "fifoFull", fn := fun _ => fun
  | [d1, d2] => { results := [.lit (.bool false)], args := [d1, d2] }
  | _ => none }
def FifoFullWrongFalsely : Prop := fifoFullRow.holds Try.pinned (OpenSpec.ofChange fifoFullWrong)

/- THE SECOND FORM. 'bulk': how many values and letters a reading holds, each counted each time it is reached (what is shared counts as often as it is met; a slice's spare places count too). A statement '..UptoSaid' is the law's where the arguments, and the package variables that the reading takes, are together of bulk at most 1048576: NARROWER than '..Said'. Prove '..Said' where nothing that the law and all that it calls make is longer than what came in: it says more and counts as full. Else prove '..UptoSaid'. A law counts once. -/
mutual
def uptoBulk {H : Type} : DataW H → Nat
  | .lit (.string bytes) => bytes.length + 1
  | .lit _ => 1
  | .nil => 1
  | .ptr d => uptoBulk d + 1
  | .slice elems spare => uptoBulkAll elems + uptoBulkAll spare + 1
  | .agg parts => uptoBulkAll parts + 1
  | .iface _ d => uptoBulk d + 1
  | .map entries => uptoBulkEntries entries + 1
  | .held _ => 1
def uptoBulkAll {H : Type} : List (DataW H) → Nat
  | [] => 0
  | d :: r => uptoBulk d + uptoBulkAll r
def uptoBulkEntries {H : Type} : List (Lit × DataW H) → Nat
  | [] => 0
  | x :: r => uptoBulkEntry x + uptoBulkEntries r
def uptoBulkEntry {H : Type} : Lit × DataW H → Nat
  | (.string bytes, d) => bytes.length + uptoBulk d + 1
  | (_, d) => uptoBulk d + 1
 end
def uptoSmall : (H : Type) → List (DataW H) → Bool := fun _ ds => decide (uptoBulkAll ds ≤ 1048576)
def OpenSpec.upto (s : _root_.Go.ChangeSpec) : _root_.Go.OpenSpec := { _root_.Go.OpenSpec.ofChange s with cond := some uptoSmall }

/-- 'dolelaw13.FifoPlays', WHERE WHAT IT READS IS OF BULK AT MOST 1048576: true; the input reads as it did. -/
def fifoPlaysUptoRow : OpenClaim := { program := "ythphileaaoeamaa", sum := "e68549d50cc901d9ff44de468db95c83a669231199ed930e81a601dcbd2678ef", func := "dole/dolelaw13.FifoPlays", spec := "fifoPlays", apart := false, narrowed := true }
def FifoPlaysUptoSaid : Prop := fifoPlaysUptoRow.holds Try.pinned (OpenSpec.upto fifoPlaysSpec)

/-- 'dolelaw13.FifoGives', WHERE WHAT IT READS IS OF BULK AT MOST 1048576: true; the input reads as it did. -/
def fifoGivesUptoRow : OpenClaim := { program := "ythphileaaoeamaa", sum := "e68549d50cc901d9ff44de468db95c83a669231199ed930e81a601dcbd2678ef", func := "dole/dolelaw13.FifoGives", spec := "fifoGives", apart := false, narrowed := true }
def FifoGivesUptoSaid : Prop := fifoGivesUptoRow.holds Try.pinned (OpenSpec.upto fifoGivesSpec)

/-- 'dolelaw13.FifoTurns', WHERE WHAT IT READS IS OF BULK AT MOST 1048576: true; the input reads as it did. -/
def fifoTurnsUptoRow : OpenClaim := { program := "ythphileaaoeamaa", sum := "e68549d50cc901d9ff44de468db95c83a669231199ed930e81a601dcbd2678ef", func := "dole/dolelaw13.FifoTurns", spec := "fifoTurns", apart := false, narrowed := true }
def FifoTurnsUptoSaid : Prop := fifoTurnsUptoRow.holds Try.pinned (OpenSpec.upto fifoTurnsSpec)

/-- 'dolelaw13.FifoLeft', WHERE WHAT IT READS IS OF BULK AT MOST 1048576: true; the input reads as it did. -/
def fifoLeftUptoRow : OpenClaim := { program := "ythphileaaoeamaa", sum := "e68549d50cc901d9ff44de468db95c83a669231199ed930e81a601dcbd2678ef", func := "dole/dolelaw13.FifoLeft", spec := "fifoLeft", apart := false, narrowed := true }
def FifoLeftUptoSaid : Prop := fifoLeftUptoRow.holds Try.pinned (OpenSpec.upto fifoLeftSpec)

/-- 'dolelaw13.FifoSlices', WHERE WHAT IT READS IS OF BULK AT MOST 1048576: true; the input reads as it did. -/
def fifoSlicesUptoRow : OpenClaim := { program := "ythphileaaoeamaa", sum := "e68549d50cc901d9ff44de468db95c83a669231199ed930e81a601dcbd2678ef", func := "dole/dolelaw13.FifoSlices", spec := "fifoSlices", apart := false, narrowed := true }
def FifoSlicesUptoSaid : Prop := fifoSlicesUptoRow.holds Try.pinned (OpenSpec.upto fifoSlicesSpec)

/-- 'dolelaw13.FifoFull', WHERE WHAT IT READS IS OF BULK AT MOST 1048576: true; the input reads as it did. -/
def fifoFullUptoRow : OpenClaim := { program := "ythphileaaoeamaa", sum := "e68549d50cc901d9ff44de468db95c83a669231199ed930e81a601dcbd2678ef", func := "dole/dolelaw13.FifoFull", spec := "fifoFull", apart := false, narrowed := true }
def FifoFullUptoSaid : Prop := fifoFullUptoRow.holds Try.pinned (OpenSpec.upto fifoFullSpec)

end Rows
end Go.Proofs.Ythphileaaoeamaa
