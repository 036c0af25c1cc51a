/-
  No cell of these rows narrows 'for every input' (looked for: loops, veiled, ifaces, maps, wideKeys, modest, calm, conditions, laid).
  DERIVED. THE GIVEN ROWS OF THIS SEAT. 7 by the template 'for every input the law returns true; each argument reads behind the call as it read before'; 0 by the template 'total and deterministic' (their statements: YtfbnnkmjnolnlaaTotals.lean).
  GIVEN WITH THE SEED: the statements are not yours to turn. If you find one false, say at which input.
  Laid BY PROGRAM, IN A SANDBOX (cutbox-rows.mjs): the forced cells as the released guide's own fill.sh prints them over the translation fd970464e8d285e2… (all of the seat's roots in one cut). By AI agents, Wed Nov 11 2026. No macro, syntax, notation, axiom, sorry.
-/
import Derived.Test.YtfbnnkmjnolnlaaChecked
import GoSem.Claim
import GoSem.ClaimJoined
import GoSem.ClaimMapViews
import Derived.JoinedTies
import Derived.KernelRfl
namespace Go.Proofs.Ytfbnnkmjnolnlaa
/- THE CELL 'sum', in the pinned program and in every row, IS THE sha256 OF THE DUMP (.gsa) THAT YtfbnnkmjnolnlaaProg.lean LOADS. Nothing in Lean hashes anything: it is a label: what it is worth is what the hold of that sum in a sandbox is worth. -/
noncomputable def Try.pinned : Pinned := { name := "ytfbnnkmjnolnlaa", sum := "fd970464e8d285e2e838d428d3ec396de250ea790cbb6b94b15c8157e3cff9c5", checked := Try.checked }
namespace Rows
def none {H : Type} : Left H := { results := [], args := [] }

/-- 'dolelaw21.TurnPlays': WHATEVER THE INPUT: true; the input reads as it did. -/
def turnPlaysSpec : ChangeSpec := { name := "turnPlays", fn := fun _ => fun
  | [d1, d2] => { results := [.lit (.bool true)], args := [d1, d2] }
  | _ => none }
def turnPlaysRow : OpenClaim := { program := "ytfbnnkmjnolnlaa", sum := "fd970464e8d285e2e838d428d3ec396de250ea790cbb6b94b15c8157e3cff9c5", func := "dole/dolelaw21.TurnPlays", spec := "turnPlays", inPlace := ["math/bits.Add64"], unfollowed := true, recurses := true, named := ["math/bits.divideError", "math/bits.overflowError"], apart := false }
def TurnPlaysSaid : Prop := turnPlaysRow.holds Try.pinned (OpenSpec.ofChange turnPlaysSpec)

/-- ITS FALSE NEIGHBOUR: 'it returns false'. Refute it at one input. -/
def turnPlaysWrong : ChangeSpec := { name := "turnPlays", fn := fun _ => fun
  | [d1, d2] => { results := [.lit (.bool false)], args := [d1, d2] }
  | _ => none }
def TurnPlaysWrongFalsely : Prop := turnPlaysRow.holds Try.pinned (OpenSpec.ofChange turnPlaysWrong)

/-- 'dolelaw21.TurnSlices': WHATEVER THE INPUT: true; the input reads as it did. -/
def turnSlicesSpec : ChangeSpec := { name := "turnSlices", fn := fun _ => fun
  | [d1, d2, d3] => { results := [.lit (.bool true)], args := [d1, d2, d3] }
  | _ => none }
def turnSlicesRow : OpenClaim := { program := "ytfbnnkmjnolnlaa", sum := "fd970464e8d285e2e838d428d3ec396de250ea790cbb6b94b15c8157e3cff9c5", func := "dole/dolelaw21.TurnSlices", spec := "turnSlices", inPlace := ["math/bits.Add64"], unfollowed := true, recurses := true, named := ["math/bits.divideError", "math/bits.overflowError"], apart := false }
def TurnSlicesSaid : Prop := turnSlicesRow.holds Try.pinned (OpenSpec.ofChange turnSlicesSpec)

/-- ITS FALSE NEIGHBOUR: 'it returns false'. Refute it at one input. -/
def turnSlicesWrong : ChangeSpec := { name := "turnSlices", fn := fun _ => fun
  | [d1, d2, d3] => { results := [.lit (.bool false)], args := [d1, d2, d3] }
  | _ => none }
def TurnSlicesWrongFalsely : Prop := turnSlicesRow.holds Try.pinned (OpenSpec.ofChange turnSlicesWrong)

/-- 'dolelaw21.TurnAll': WHATEVER THE INPUT: true; the input reads as it did. -/
def turnAllSpec : ChangeSpec := { name := "turnAll", fn := fun _ => fun
  | [d] => { results := [.lit (.bool true)], args := [d] }
  | _ => none }
def turnAllRow : OpenClaim := { program := "ytfbnnkmjnolnlaa", sum := "fd970464e8d285e2e838d428d3ec396de250ea790cbb6b94b15c8157e3cff9c5", func := "dole/dolelaw21.TurnAll", spec := "turnAll", inPlace := ["math/bits.Add64"], unfollowed := true, recurses := true, named := ["math/bits.divideError", "math/bits.overflowError"], apart := false }
def TurnAllSaid : Prop := turnAllRow.holds Try.pinned (OpenSpec.ofChange turnAllSpec)

/-- ITS FALSE NEIGHBOUR: 'it returns false'. Refute it at one input. -/
def turnAllWrong : ChangeSpec := { name := "turnAll", fn := fun _ => fun
  | [d] => { results := [.lit (.bool false)], args := [d] }
  | _ => none }
def TurnAllWrongFalsely : Prop := turnAllRow.holds Try.pinned (OpenSpec.ofChange turnAllWrong)

/-- 'dolelaw21.TurnShares': WHATEVER THE INPUT: true; the input reads as it did. -/
def turnSharesSpec : ChangeSpec := { name := "turnShares", fn := fun _ => fun
  | [d1, d2] => { results := [.lit (.bool true)], args := [d1, d2] }
  | _ => none }
def turnSharesRow : OpenClaim := { program := "ytfbnnkmjnolnlaa", sum := "fd970464e8d285e2e838d428d3ec396de250ea790cbb6b94b15c8157e3cff9c5", func := "dole/dolelaw21.TurnShares", spec := "turnShares", inPlace := ["math/bits.Add64"], unfollowed := true, recurses := true, named := ["math/bits.divideError", "math/bits.overflowError"], apart := false }
def TurnSharesSaid : Prop := turnSharesRow.holds Try.pinned (OpenSpec.ofChange turnSharesSpec)

/-- ITS FALSE NEIGHBOUR: 'it returns false'. Refute it at one input. -/
def turnSharesWrong : ChangeSpec := { name := "turnShares", fn := fun _ => fun
  | [d1, d2] => { results := [.lit (.bool false)], args := [d1, d2] }
  | _ => none }
def TurnSharesWrongFalsely : Prop := turnSharesRow.holds Try.pinned (OpenSpec.ofChange turnSharesWrong)

/-- 'dolelaw21.TurnDue': WHATEVER THE INPUT: true; the input reads as it did. -/
def turnDueSpec : ChangeSpec := { name := "turnDue", fn := fun _ => fun
  | [d] => { results := [.lit (.bool true)], args := [d] }
  | _ => none }
def turnDueRow : OpenClaim := { program := "ytfbnnkmjnolnlaa", sum := "fd970464e8d285e2e838d428d3ec396de250ea790cbb6b94b15c8157e3cff9c5", func := "dole/dolelaw21.TurnDue", spec := "turnDue", inPlace := ["math/bits.Add64"], unfollowed := true, recurses := true, named := ["math/bits.divideError", "math/bits.overflowError"], apart := false }
def TurnDueSaid : Prop := turnDueRow.holds Try.pinned (OpenSpec.ofChange turnDueSpec)

/-- ITS FALSE NEIGHBOUR: 'it returns false'. Refute it at one input. -/
def turnDueWrong : ChangeSpec := { name := "turnDue", fn := fun _ => fun
  | [d] => { results := [.lit (.bool false)], args := [d] }
  | _ => none }
def TurnDueWrongFalsely : Prop := turnDueRow.holds Try.pinned (OpenSpec.ofChange turnDueWrong)

/-- 'dolelaw21.TurnBetter': WHATEVER THE INPUT: true; the input reads as it did. -/
def turnBetterSpec : ChangeSpec := { name := "turnBetter", fn := fun _ => fun
  | [d1, d2, d3] => { results := [.lit (.bool true)], args := [d1, d2, d3] }
  | _ => none }
def turnBetterRow : OpenClaim := { program := "ytfbnnkmjnolnlaa", sum := "fd970464e8d285e2e838d428d3ec396de250ea790cbb6b94b15c8157e3cff9c5", func := "dole/dolelaw21.TurnBetter", spec := "turnBetter", inPlace := ["math/bits.Add64"], unfollowed := true, recurses := true, named := ["math/bits.divideError", "math/bits.overflowError"], apart := false }
def TurnBetterSaid : Prop := turnBetterRow.holds Try.pinned (OpenSpec.ofChange turnBetterSpec)

/-- ITS FALSE NEIGHBOUR: 'it returns false'. Refute it at one input. -/
def turnBetterWrong : ChangeSpec := { name := "turnBetter", fn := fun _ => fun
  | [d1, d2, d3] => { results := [.lit (.bool false)], args := [d1, d2, d3] }
  | _ => none }
def TurnBetterWrongFalsely : Prop := turnBetterRow.holds Try.pinned (OpenSpec.ofChange turnBetterWrong)

/-- 'dolelaw21.TurnNobody': WHATEVER THE INPUT: true; the input reads as it did. -/
def turnNobodySpec : ChangeSpec := { name := "turnNobody", fn := fun _ => fun
  | [d1, d2] => { results := [.lit (.bool true)], args := [d1, d2] }
  | _ => none }
def turnNobodyRow : OpenClaim := { program := "ytfbnnkmjnolnlaa", sum := "fd970464e8d285e2e838d428d3ec396de250ea790cbb6b94b15c8157e3cff9c5", func := "dole/dolelaw21.TurnNobody", spec := "turnNobody", inPlace := ["math/bits.Add64"], unfollowed := true, recurses := true, named := ["math/bits.divideError", "math/bits.overflowError"], apart := false }
def TurnNobodySaid : Prop := turnNobodyRow.holds Try.pinned (OpenSpec.ofChange turnNobodySpec)

/-- ITS FALSE NEIGHBOUR: 'it returns false'. Refute it at one input. -/
def turnNobodyWrong : ChangeSpec := { name := "turnNobody", fn := fun _ => fun
  | [d1, d2] => { results := [.lit (.bool false)], args := [d1, d2] }
  | _ => none }
def TurnNobodyWrongFalsely : Prop := turnNobodyRow.holds Try.pinned (OpenSpec.ofChange turnNobodyWrong)

/- THE SECOND FORM. 'bulk': how many values and letters a reading holds, each counted each time it is reached (what is shared counts as often as it is met; a slice's spare places count too). A statement '..UptoSaid' is the law's where the arguments, and the package variables that the reading takes, are together of bulk at most 1048576: NARROWER than '..Said'. Prove '..Said' where nothing that the law and all that it calls make is longer than what came in: it says more and counts as full. Else prove '..UptoSaid'. A law counts once. -/
mutual
def uptoBulk {H : Type} : DataW H → Nat
  | .lit (.string bytes) => bytes.length + 1
  | .lit _ => 1
  | .nil => 1
  | .ptr d => uptoBulk d + 1
  | .slice elems spare => uptoBulkAll elems + uptoBulkAll spare + 1
  | .agg parts => uptoBulkAll parts + 1
  | .iface _ d => uptoBulk d + 1
  | .map entries => uptoBulkEntries entries + 1
  | .held _ => 1
def uptoBulkAll {H : Type} : List (DataW H) → Nat
  | [] => 0
  | d :: r => uptoBulk d + uptoBulkAll r
def uptoBulkEntries {H : Type} : List (Lit × DataW H) → Nat
  | [] => 0
  | x :: r => uptoBulkEntry x + uptoBulkEntries r
def uptoBulkEntry {H : Type} : Lit × DataW H → Nat
  | (.string bytes, d) => bytes.length + uptoBulk d + 1
  | (_, d) => uptoBulk d + 1
 end
def uptoSmall : (H : Type) → List (DataW H) → Bool := fun _ ds => decide (uptoBulkAll ds ≤ 1048576)
def OpenSpec.upto (s : _root_.Go.ChangeSpec) : _root_.Go.OpenSpec := { _root_.Go.OpenSpec.ofChange s with cond := some uptoSmall }

/-- 'dolelaw21.TurnPlays', WHERE WHAT IT READS IS OF BULK AT MOST 1048576: true; the input reads as it did. -/
def turnPlaysUptoRow : OpenClaim := { program := "ytfbnnkmjnolnlaa", sum := "fd970464e8d285e2e838d428d3ec396de250ea790cbb6b94b15c8157e3cff9c5", func := "dole/dolelaw21.TurnPlays", spec := "turnPlays", inPlace := ["math/bits.Add64"], unfollowed := true, recurses := true, named := ["math/bits.divideError", "math/bits.overflowError"], apart := false, narrowed := true }
def TurnPlaysUptoSaid : Prop := turnPlaysUptoRow.holds Try.pinned (OpenSpec.upto turnPlaysSpec)

/-- 'dolelaw21.TurnSlices', WHERE WHAT IT READS IS OF BULK AT MOST 1048576: true; the input reads as it did. -/
def turnSlicesUptoRow : OpenClaim := { program := "ytfbnnkmjnolnlaa", sum := "fd970464e8d285e2e838d428d3ec396de250ea790cbb6b94b15c8157e3cff9c5", func := "dole/dolelaw21.TurnSlices", spec := "turnSlices", inPlace := ["math/bits.Add64"], unfollowed := true, recurses := true, named := ["math/bits.divideError", "math/bits.overflowError"], apart := false, narrowed := true }
def TurnSlicesUptoSaid : Prop := turnSlicesUptoRow.holds Try.pinned (OpenSpec.upto turnSlicesSpec)

/-- 'dolelaw21.TurnAll', WHERE WHAT IT READS IS OF BULK AT MOST 1048576: true; the input reads as it did. -/
def turnAllUptoRow : OpenClaim := { program := "ytfbnnkmjnolnlaa", sum := "fd970464e8d285e2e838d428d3ec396de250ea790cbb6b94b15c8157e3cff9c5", func := "dole/dolelaw21.TurnAll", spec := "turnAll", inPlace := ["math/bits.Add64"], unfollowed := true, recurses := true, named := ["math/bits.divideError", "math/bits.overflowError"], apart := false, narrowed := true }
def TurnAllUptoSaid : Prop := turnAllUptoRow.holds Try.pinned (OpenSpec.upto turnAllSpec)

/-- 'dolelaw21.TurnShares', WHERE WHAT IT READS IS OF BULK AT MOST 1048576: true; the input reads as it did. -/
def turnSharesUptoRow : OpenClaim := { program := "ytfbnnkmjnolnlaa", sum := "fd970464e8d285e2e838d428d3ec396de250ea790cbb6b94b15c8157e3cff9c5", func := "dole/dolelaw21.TurnShares", spec := "turnShares", inPlace := ["math/bits.Add64"], unfollowed := true, recurses := true, named := ["math/bits.divideError", "math/bits.overflowError"], apart := false, narrowed := true }
def TurnSharesUptoSaid : Prop := turnSharesUptoRow.holds Try.pinned (OpenSpec.upto turnSharesSpec)

/-- 'dolelaw21.TurnDue', WHERE WHAT IT READS IS OF BULK AT MOST 1048576: true; the input reads as it did. -/
def turnDueUptoRow : OpenClaim := { program := "ytfbnnkmjnolnlaa", sum := "fd970464e8d285e2e838d428d3ec396de250ea790cbb6b94b15c8157e3cff9c5", func := "dole/dolelaw21.TurnDue", spec := "turnDue", inPlace := ["math/bits.Add64"], unfollowed := true, recurses := true, named := ["math/bits.divideError", "math/bits.overflowError"], apart := false, narrowed := true }
def TurnDueUptoSaid : Prop := turnDueUptoRow.holds Try.pinned (OpenSpec.upto turnDueSpec)

/-- 'dolelaw21.TurnBetter', WHERE WHAT IT READS IS OF BULK AT MOST 1048576: true; the input reads as it did. -/
def turnBetterUptoRow : OpenClaim := { program := "ytfbnnkmjnolnlaa", sum := "fd970464e8d285e2e838d428d3ec396de250ea790cbb6b94b15c8157e3cff9c5", func := "dole/dolelaw21.TurnBetter", spec := "turnBetter", inPlace := ["math/bits.Add64"], unfollowed := true, recurses := true, named := ["math/bits.divideError", "math/bits.overflowError"], apart := false, narrowed := true }
def TurnBetterUptoSaid : Prop := turnBetterUptoRow.holds Try.pinned (OpenSpec.upto turnBetterSpec)

/-- 'dolelaw21.TurnNobody', WHERE WHAT IT READS IS OF BULK AT MOST 1048576: true; the input reads as it did. -/
def turnNobodyUptoRow : OpenClaim := { program := "ytfbnnkmjnolnlaa", sum := "fd970464e8d285e2e838d428d3ec396de250ea790cbb6b94b15c8157e3cff9c5", func := "dole/dolelaw21.TurnNobody", spec := "turnNobody", inPlace := ["math/bits.Add64"], unfollowed := true, recurses := true, named := ["math/bits.divideError", "math/bits.overflowError"], apart := false, narrowed := true }
def TurnNobodyUptoSaid : Prop := turnNobodyUptoRow.holds Try.pinned (OpenSpec.upto turnNobodySpec)

end Rows
end Go.Proofs.Ytfbnnkmjnolnlaa
