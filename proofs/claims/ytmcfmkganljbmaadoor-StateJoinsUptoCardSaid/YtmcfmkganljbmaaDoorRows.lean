/-
  NARROWER THAN 'FOR EVERY INPUT', by the rows' own cells (each row's printed sentence says how): StateDead: laid · StateJoins: laid · StateRuns: laid.
  DERIVED. THE GIVEN ROWS OF THIS SEAT. 3 by the template 'for every input the law returns true; each argument reads behind the call as it read before'; 0 by the template 'total and deterministic' (their statements: YtmcfmkganljbmaaDoorTotals.lean).
  GIVEN WITH THE SEED: the statements are not yours to turn. If you find one false, say at which input.
  Laid BY PROGRAM, IN A SANDBOX (cutbox-rows.mjs): the forced cells as the released guide's own fill.sh prints them over the translation a630df3bef5a7a8e… (all of the seat's roots in one cut). By AI agents, Wed Nov 11 2026. No macro, syntax, notation, axiom, sorry.
-/
import Derived.Test.YtmcfmkganljbmaaDoorChecked
import GoSem.Claim
import GoSem.ClaimJoined
import GoSem.ClaimMapViews
import Derived.JoinedTies
import Derived.KernelRfl
namespace Go.Proofs.YtmcfmkganljbmaaDoor
/- THE CELL 'sum', in the pinned program and in every row, IS THE sha256 OF THE DUMP (.gsa) THAT YtmcfmkganljbmaaDoorProg.lean LOADS. Nothing in Lean hashes anything: it is a label: what it is worth is what the hold of that sum in a sandbox is worth. -/
noncomputable def Tryd.pinned : Pinned := { name := "ytmcfmkganljbmaadoor", sum := "a630df3bef5a7a8e8badacca13a7e1e660a35ded63cca64f46234e6ed281cf07", checked := Tryd.checked }
namespace Rows
def none {H : Type} : Left H := { results := [], args := [] }

/- WHAT THE LISTED PACKAGE-LEVEL VARIABLES READ AS WHEN THE CALL BEGINS. Each datum BY PROGRAM (the guide's laid-datum.mjs) off the statement by which the dump's own 'gosem.cut.vars' lays the variable. In a bare row this is a premise. The card (YtmcfmkganljbmaaDoorCards.lean) ties it to the program's text. -/
def laid_dole_state_steps {H : Type} : DataW H := .agg [.agg [.lit (.int .i64 1), .lit (.int .i64 7), .lit (.int .i64 2)], .agg [.lit (.int .i64 2), .lit (.int .i64 101), .lit (.int .i64 3)], .agg [.lit (.int .i64 3), .lit (.int .i64 8), .lit (.int .i64 1)], .agg [.lit (.int .i64 3), .lit (.int .i64 9), .lit (.int .i64 2)], .agg [.lit (.int .i64 3), .lit (.int .i64 10), .lit (.int .i64 4)], .agg [.lit (.int .i64 3), .lit (.int .i64 102), .lit (.int .i64 2)]]

/-- 'dolelaw14.StateDead': WHATEVER THE INPUT: true; the input reads as it did. -/
def stateDeadSpec : ChangeSpec := { name := "stateDead", fn := fun _ => fun
  | [d1, d2] => { results := [.lit (.bool true)], args := [d1, d2] }
  | _ => none }
def stateDeadRow : OpenClaim := { program := "ytmcfmkganljbmaadoor", sum := "a630df3bef5a7a8e8badacca13a7e1e660a35ded63cca64f46234e6ed281cf07", func := "dole/dolelaw14.StateDead", spec := "stateDead", named := ["dole/state.steps"], apart := false, laid := [("dole/state.steps", laid_dole_state_steps)] }
def StateDeadSaid : Prop := stateDeadRow.holds Tryd.pinned (OpenSpec.ofChange stateDeadSpec)

/-- ITS FALSE NEIGHBOUR: 'it returns false'. Refute it at one input. -/
def stateDeadWrong : ChangeSpec := { name := "stateDead", fn := fun _ => fun
  | [d1, d2] => { results := [.lit (.bool false)], args := [d1, d2] }
  | _ => none }
def StateDeadWrongFalsely : Prop := stateDeadRow.holds Tryd.pinned (OpenSpec.ofChange stateDeadWrong)

/-- 'dolelaw14.StateJoins': WHATEVER THE INPUT: true; the input reads as it did. -/
def stateJoinsSpec : ChangeSpec := { name := "stateJoins", fn := fun _ => fun
  | [d1, d2] => { results := [.lit (.bool true)], args := [d1, d2] }
  | _ => none }
def stateJoinsRow : OpenClaim := { program := "ytmcfmkganljbmaadoor", sum := "a630df3bef5a7a8e8badacca13a7e1e660a35ded63cca64f46234e6ed281cf07", func := "dole/dolelaw14.StateJoins", spec := "stateJoins", named := ["dole/state.steps"], apart := false, laid := [("dole/state.steps", laid_dole_state_steps)] }
def StateJoinsSaid : Prop := stateJoinsRow.holds Tryd.pinned (OpenSpec.ofChange stateJoinsSpec)

/-- ITS FALSE NEIGHBOUR: 'it returns false'. Refute it at one input. -/
def stateJoinsWrong : ChangeSpec := { name := "stateJoins", fn := fun _ => fun
  | [d1, d2] => { results := [.lit (.bool false)], args := [d1, d2] }
  | _ => none }
def StateJoinsWrongFalsely : Prop := stateJoinsRow.holds Tryd.pinned (OpenSpec.ofChange stateJoinsWrong)

/-- 'dolelaw14.StateRuns': WHATEVER THE INPUT: true; the input reads as it did. -/
def stateRunsSpec : ChangeSpec := { name := "stateRuns", fn := fun _ => fun
  | [d] => { results := [.lit (.bool true)], args := [d] }
  | _ => none }
def stateRunsRow : OpenClaim := { program := "ytmcfmkganljbmaadoor", sum := "a630df3bef5a7a8e8badacca13a7e1e660a35ded63cca64f46234e6ed281cf07", func := "dole/dolelaw14.StateRuns", spec := "stateRuns", named := ["dole/state.steps"], apart := false, laid := [("dole/state.steps", laid_dole_state_steps)] }
def StateRunsSaid : Prop := stateRunsRow.holds Tryd.pinned (OpenSpec.ofChange stateRunsSpec)

/-- ITS FALSE NEIGHBOUR: 'it returns false'. Refute it at one input. -/
def stateRunsWrong : ChangeSpec := { name := "stateRuns", fn := fun _ => fun
  | [d] => { results := [.lit (.bool false)], args := [d] }
  | _ => none }
def StateRunsWrongFalsely : Prop := stateRunsRow.holds Tryd.pinned (OpenSpec.ofChange stateRunsWrong)

/- THE SECOND FORM. 'bulk': how many values and letters a reading holds, each counted each time it is reached (what is shared counts as often as it is met; a slice's spare places count too). A statement '..UptoSaid' is the law's where the arguments, and the package variables that the reading takes, are together of bulk at most 1048576: NARROWER than '..Said'. Prove '..Said' where nothing that the law and all that it calls make is longer than what came in: it says more and counts as full. Else prove '..UptoSaid'. A law counts once. -/
mutual
def uptoBulk {H : Type} : DataW H → Nat
  | .lit (.string bytes) => bytes.length + 1
  | .lit _ => 1
  | .nil => 1
  | .ptr d => uptoBulk d + 1
  | .slice elems spare => uptoBulkAll elems + uptoBulkAll spare + 1
  | .agg parts => uptoBulkAll parts + 1
  | .iface _ d => uptoBulk d + 1
  | .map entries => uptoBulkEntries entries + 1
  | .held _ => 1
def uptoBulkAll {H : Type} : List (DataW H) → Nat
  | [] => 0
  | d :: r => uptoBulk d + uptoBulkAll r
def uptoBulkEntries {H : Type} : List (Lit × DataW H) → Nat
  | [] => 0
  | x :: r => uptoBulkEntry x + uptoBulkEntries r
def uptoBulkEntry {H : Type} : Lit × DataW H → Nat
  | (.string bytes, d) => bytes.length + uptoBulk d + 1
  | (_, d) => uptoBulk d + 1
 end
def uptoSmall : (H : Type) → List (DataW H) → Bool := fun _ ds => decide (uptoBulkAll ds ≤ 1048576)
def OpenSpec.upto (s : _root_.Go.ChangeSpec) : _root_.Go.OpenSpec := { _root_.Go.OpenSpec.ofChange s with cond := some uptoSmall }

/-- 'dolelaw14.StateDead', WHERE WHAT IT READS IS OF BULK AT MOST 1048576: true; the input reads as it did. -/
def stateDeadUptoRow : OpenClaim := { program := "ytmcfmkganljbmaadoor", sum := "a630df3bef5a7a8e8badacca13a7e1e660a35ded63cca64f46234e6ed281cf07", func := "dole/dolelaw14.StateDead", spec := "stateDead", named := ["dole/state.steps"], apart := false, laid := [("dole/state.steps", laid_dole_state_steps)], narrowed := true }
def StateDeadUptoSaid : Prop := stateDeadUptoRow.holds Tryd.pinned (OpenSpec.upto stateDeadSpec)

/-- 'dolelaw14.StateJoins', WHERE WHAT IT READS IS OF BULK AT MOST 1048576: true; the input reads as it did. -/
def stateJoinsUptoRow : OpenClaim := { program := "ytmcfmkganljbmaadoor", sum := "a630df3bef5a7a8e8badacca13a7e1e660a35ded63cca64f46234e6ed281cf07", func := "dole/dolelaw14.StateJoins", spec := "stateJoins", named := ["dole/state.steps"], apart := false, laid := [("dole/state.steps", laid_dole_state_steps)], narrowed := true }
def StateJoinsUptoSaid : Prop := stateJoinsUptoRow.holds Tryd.pinned (OpenSpec.upto stateJoinsSpec)

/-- 'dolelaw14.StateRuns', WHERE WHAT IT READS IS OF BULK AT MOST 1048576: true; the input reads as it did. -/
def stateRunsUptoRow : OpenClaim := { program := "ytmcfmkganljbmaadoor", sum := "a630df3bef5a7a8e8badacca13a7e1e660a35ded63cca64f46234e6ed281cf07", func := "dole/dolelaw14.StateRuns", spec := "stateRuns", named := ["dole/state.steps"], apart := false, laid := [("dole/state.steps", laid_dole_state_steps)], narrowed := true }
def StateRunsUptoSaid : Prop := stateRunsUptoRow.holds Tryd.pinned (OpenSpec.upto stateRunsSpec)

end Rows
end Go.Proofs.YtmcfmkganljbmaaDoor
