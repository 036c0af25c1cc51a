/-
  No cell of these rows narrows 'for every input' (looked for: loops, veiled, ifaces, maps, wideKeys, modest, calm, conditions, laid).
  DERIVED. THE GIVEN ROWS OF THIS SEAT. 6 by the template 'for every input the law returns true; each argument reads behind the call as it read before'; 0 by the template 'total and deterministic' (their statements: YtjbhighfajdfhaaTotals.lean).
  GIVEN WITH THE SEED: the statements are not yours to turn. If you find one false, say at which input.
  Laid BY PROGRAM, IN A SANDBOX (cutbox-rows.mjs): the forced cells as the released guide's own fill.sh prints them over the translation 81b3e06a3b4122de… (all of the seat's roots in one cut). By AI agents, Wed Nov 11 2026. No macro, syntax, notation, axiom, sorry.
-/
import Derived.Test.YtjbhighfajdfhaaChecked
import GoSem.Claim
import GoSem.ClaimJoined
import GoSem.ClaimMapViews
import Derived.JoinedTies
import Derived.KernelRfl
namespace Go.Proofs.Ytjbhighfajdfhaa
/- THE CELL 'sum', in the pinned program and in every row, IS THE sha256 OF THE DUMP (.gsa) THAT YtjbhighfajdfhaaProg.lean LOADS. Nothing in Lean hashes anything: it is a label: what it is worth is what the hold of that sum in a sandbox is worth. -/
noncomputable def Try.pinned : Pinned := { name := "ytjbhighfajdfhaa", sum := "81b3e06a3b4122dec55cf1d85151bf51da9bc5757f2d46829764b238858f7736", checked := Try.checked }
namespace Rows
def none {H : Type} : Left H := { results := [], args := [] }

/-- 'dolelaw16.PullChooses': WHATEVER THE INPUT: true; the input reads as it did. -/
def pullChoosesSpec : ChangeSpec := { name := "pullChooses", fn := fun _ => fun
  | [d1, d2, d3, d4, d5] => { results := [.lit (.bool true)], args := [d1, d2, d3, d4, d5] }
  | _ => none }
def pullChoosesRow : OpenClaim := { program := "ytjbhighfajdfhaa", sum := "81b3e06a3b4122dec55cf1d85151bf51da9bc5757f2d46829764b238858f7736", func := "dole/dolelaw16.PullChooses", spec := "pullChooses", unfollowed := true, recurses := true, apart := false }
def PullChoosesSaid : Prop := pullChoosesRow.holds Try.pinned (OpenSpec.ofChange pullChoosesSpec)

/-- ITS FALSE NEIGHBOUR: 'it returns false'. Refute it at one input. -/
def pullChoosesWrong : ChangeSpec := { name := "pullChooses", fn := fun _ => fun
  | [d1, d2, d3, d4, d5] => { results := [.lit (.bool false)], args := [d1, d2, d3, d4, d5] }
  | _ => none }
def PullChoosesWrongFalsely : Prop := pullChoosesRow.holds Try.pinned (OpenSpec.ofChange pullChoosesWrong)

/-- 'dolelaw16.PullNears': WHATEVER THE INPUT: true; the input reads as it did. -/
def pullNearsSpec : ChangeSpec := { name := "pullNears", fn := fun _ => fun
  | [d1, d2, d3, d4] => { results := [.lit (.bool true)], args := [d1, d2, d3, d4] }
  | _ => none }
def pullNearsRow : OpenClaim := { program := "ytjbhighfajdfhaa", sum := "81b3e06a3b4122dec55cf1d85151bf51da9bc5757f2d46829764b238858f7736", func := "dole/dolelaw16.PullNears", spec := "pullNears", unfollowed := true, recurses := true, apart := false }
def PullNearsSaid : Prop := pullNearsRow.holds Try.pinned (OpenSpec.ofChange pullNearsSpec)

/-- ITS FALSE NEIGHBOUR: 'it returns false'. Refute it at one input. -/
def pullNearsWrong : ChangeSpec := { name := "pullNears", fn := fun _ => fun
  | [d1, d2, d3, d4] => { results := [.lit (.bool false)], args := [d1, d2, d3, d4] }
  | _ => none }
def PullNearsWrongFalsely : Prop := pullNearsRow.holds Try.pinned (OpenSpec.ofChange pullNearsWrong)

/-- 'dolelaw16.PullMay': WHATEVER THE INPUT: true; the input reads as it did. -/
def pullMaySpec : ChangeSpec := { name := "pullMay", fn := fun _ => fun
  | [d1, d2, d3, d4] => { results := [.lit (.bool true)], args := [d1, d2, d3, d4] }
  | _ => none }
def pullMayRow : OpenClaim := { program := "ytjbhighfajdfhaa", sum := "81b3e06a3b4122dec55cf1d85151bf51da9bc5757f2d46829764b238858f7736", func := "dole/dolelaw16.PullMay", spec := "pullMay", unfollowed := true, recurses := true, apart := false }
def PullMaySaid : Prop := pullMayRow.holds Try.pinned (OpenSpec.ofChange pullMaySpec)

/-- ITS FALSE NEIGHBOUR: 'it returns false'. Refute it at one input. -/
def pullMayWrong : ChangeSpec := { name := "pullMay", fn := fun _ => fun
  | [d1, d2, d3, d4] => { results := [.lit (.bool false)], args := [d1, d2, d3, d4] }
  | _ => none }
def PullMayWrongFalsely : Prop := pullMayRow.holds Try.pinned (OpenSpec.ofChange pullMayWrong)

/-- 'dolelaw16.PullBest': WHATEVER THE INPUT: true; the input reads as it did. -/
def pullBestSpec : ChangeSpec := { name := "pullBest", fn := fun _ => fun
  | [d1, d2, d3, d4] => { results := [.lit (.bool true)], args := [d1, d2, d3, d4] }
  | _ => none }
def pullBestRow : OpenClaim := { program := "ytjbhighfajdfhaa", sum := "81b3e06a3b4122dec55cf1d85151bf51da9bc5757f2d46829764b238858f7736", func := "dole/dolelaw16.PullBest", spec := "pullBest", unfollowed := true, recurses := true, apart := false }
def PullBestSaid : Prop := pullBestRow.holds Try.pinned (OpenSpec.ofChange pullBestSpec)

/-- ITS FALSE NEIGHBOUR: 'it returns false'. Refute it at one input. -/
def pullBestWrong : ChangeSpec := { name := "pullBest", fn := fun _ => fun
  | [d1, d2, d3, d4] => { results := [.lit (.bool false)], args := [d1, d2, d3, d4] }
  | _ => none }
def PullBestWrongFalsely : Prop := pullBestRow.holds Try.pinned (OpenSpec.ofChange pullBestWrong)

/-- 'dolelaw16.PullNone': WHATEVER THE INPUT: true; the input reads as it did. -/
def pullNoneSpec : ChangeSpec := { name := "pullNone", fn := fun _ => fun
  | [d1, d2, d3, d4] => { results := [.lit (.bool true)], args := [d1, d2, d3, d4] }
  | _ => none }
def pullNoneRow : OpenClaim := { program := "ytjbhighfajdfhaa", sum := "81b3e06a3b4122dec55cf1d85151bf51da9bc5757f2d46829764b238858f7736", func := "dole/dolelaw16.PullNone", spec := "pullNone", unfollowed := true, recurses := true, apart := false }
def PullNoneSaid : Prop := pullNoneRow.holds Try.pinned (OpenSpec.ofChange pullNoneSpec)

/-- ITS FALSE NEIGHBOUR: 'it returns false'. Refute it at one input. -/
def pullNoneWrong : ChangeSpec := { name := "pullNone", fn := fun _ => fun
  | [d1, d2, d3, d4] => { results := [.lit (.bool false)], args := [d1, d2, d3, d4] }
  | _ => none }
def PullNoneWrongFalsely : Prop := pullNoneRow.holds Try.pinned (OpenSpec.ofChange pullNoneWrong)

/-- 'dolelaw16.PullOrder': WHATEVER THE INPUT: true; the input reads as it did. -/
def pullOrderSpec : ChangeSpec := { name := "pullOrder", fn := fun _ => fun
  | [d1, d2, d3, d4] => { results := [.lit (.bool true)], args := [d1, d2, d3, d4] }
  | _ => none }
def pullOrderRow : OpenClaim := { program := "ytjbhighfajdfhaa", sum := "81b3e06a3b4122dec55cf1d85151bf51da9bc5757f2d46829764b238858f7736", func := "dole/dolelaw16.PullOrder", spec := "pullOrder", unfollowed := true, recurses := true, apart := false }
def PullOrderSaid : Prop := pullOrderRow.holds Try.pinned (OpenSpec.ofChange pullOrderSpec)

/-- ITS FALSE NEIGHBOUR: 'it returns false'. Refute it at one input. -/
def pullOrderWrong : ChangeSpec := { name := "pullOrder", fn := fun _ => fun
  | [d1, d2, d3, d4] => { results := [.lit (.bool false)], args := [d1, d2, d3, d4] }
  | _ => none }
def PullOrderWrongFalsely : Prop := pullOrderRow.holds Try.pinned (OpenSpec.ofChange pullOrderWrong)

/- THE SECOND FORM. 'bulk': how many values and letters a reading holds, each counted each time it is reached (what is shared counts as often as it is met; a slice's spare places count too). A statement '..UptoSaid' is the law's where the arguments, and the package variables that the reading takes, are together of bulk at most 1048576: NARROWER than '..Said'. Prove '..Said' where nothing that the law and all that it calls make is longer than what came in: it says more and counts as full. Else prove '..UptoSaid'. A law counts once. -/
mutual
def uptoBulk {H : Type} : DataW H → Nat
  | .lit (.string bytes) => bytes.length + 1
  | .lit _ => 1
  | .nil => 1
  | .ptr d => uptoBulk d + 1
  | .slice elems spare => uptoBulkAll elems + uptoBulkAll spare + 1
  | .agg parts => uptoBulkAll parts + 1
  | .iface _ d => uptoBulk d + 1
  | .map entries => uptoBulkEntries entries + 1
  | .held _ => 1
def uptoBulkAll {H : Type} : List (DataW H) → Nat
  | [] => 0
  | d :: r => uptoBulk d + uptoBulkAll r
def uptoBulkEntries {H : Type} : List (Lit × DataW H) → Nat
  | [] => 0
  | x :: r => uptoBulkEntry x + uptoBulkEntries r
def uptoBulkEntry {H : Type} : Lit × DataW H → Nat
  | (.string bytes, d) => bytes.length + uptoBulk d + 1
  | (_, d) => uptoBulk d + 1
 end
def uptoSmall : (H : Type) → List (DataW H) → Bool := fun _ ds => decide (uptoBulkAll ds ≤ 1048576)
def OpenSpec.upto (s : _root_.Go.ChangeSpec) : _root_.Go.OpenSpec := { _root_.Go.OpenSpec.ofChange s with cond := some uptoSmall }

/-- 'dolelaw16.PullChooses', WHERE WHAT IT READS IS OF BULK AT MOST 1048576: true; the input reads as it did. -/
def pullChoosesUptoRow : OpenClaim := { program := "ytjbhighfajdfhaa", sum := "81b3e06a3b4122dec55cf1d85151bf51da9bc5757f2d46829764b238858f7736", func := "dole/dolelaw16.PullChooses", spec := "pullChooses", unfollowed := true, recurses := true, apart := false, narrowed := true }
def PullChoosesUptoSaid : Prop := pullChoosesUptoRow.holds Try.pinned (OpenSpec.upto pullChoosesSpec)

/-- 'dolelaw16.PullNears', WHERE WHAT IT READS IS OF BULK AT MOST 1048576: true; the input reads as it did. -/
def pullNearsUptoRow : OpenClaim := { program := "ytjbhighfajdfhaa", sum := "81b3e06a3b4122dec55cf1d85151bf51da9bc5757f2d46829764b238858f7736", func := "dole/dolelaw16.PullNears", spec := "pullNears", unfollowed := true, recurses := true, apart := false, narrowed := true }
def PullNearsUptoSaid : Prop := pullNearsUptoRow.holds Try.pinned (OpenSpec.upto pullNearsSpec)

/-- 'dolelaw16.PullMay', WHERE WHAT IT READS IS OF BULK AT MOST 1048576: true; the input reads as it did. -/
def pullMayUptoRow : OpenClaim := { program := "ytjbhighfajdfhaa", sum := "81b3e06a3b4122dec55cf1d85151bf51da9bc5757f2d46829764b238858f7736", func := "dole/dolelaw16.PullMay", spec := "pullMay", unfollowed := true, recurses := true, apart := false, narrowed := true }
def PullMayUptoSaid : Prop := pullMayUptoRow.holds Try.pinned (OpenSpec.upto pullMaySpec)

/-- 'dolelaw16.PullBest', WHERE WHAT IT READS IS OF BULK AT MOST 1048576: true; the input reads as it did. -/
def pullBestUptoRow : OpenClaim := { program := "ytjbhighfajdfhaa", sum := "81b3e06a3b4122dec55cf1d85151bf51da9bc5757f2d46829764b238858f7736", func := "dole/dolelaw16.PullBest", spec := "pullBest", unfollowed := true, recurses := true, apart := false, narrowed := true }
def PullBestUptoSaid : Prop := pullBestUptoRow.holds Try.pinned (OpenSpec.upto pullBestSpec)

/-- 'dolelaw16.PullNone', WHERE WHAT IT READS IS OF BULK AT MOST 1048576: true; the input reads as it did. -/
def pullNoneUptoRow : OpenClaim := { program := "ytjbhighfajdfhaa", sum := "81b3e06a3b4122dec55cf1d85151bf51da9bc5757f2d46829764b238858f7736", func := "dole/dolelaw16.PullNone", spec := "pullNone", unfollowed := true, recurses := true, apart := false, narrowed := true }
def PullNoneUptoSaid : Prop := pullNoneUptoRow.holds Try.pinned (OpenSpec.upto pullNoneSpec)

/-- 'dolelaw16.PullOrder', WHERE WHAT IT READS IS OF BULK AT MOST 1048576: true; the input reads as it did. -/
def pullOrderUptoRow : OpenClaim := { program := "ytjbhighfajdfhaa", sum := "81b3e06a3b4122dec55cf1d85151bf51da9bc5757f2d46829764b238858f7736", func := "dole/dolelaw16.PullOrder", spec := "pullOrder", unfollowed := true, recurses := true, apart := false, narrowed := true }
def PullOrderUptoSaid : Prop := pullOrderUptoRow.holds Try.pinned (OpenSpec.upto pullOrderSpec)

end Rows
end Go.Proofs.Ytjbhighfajdfhaa
