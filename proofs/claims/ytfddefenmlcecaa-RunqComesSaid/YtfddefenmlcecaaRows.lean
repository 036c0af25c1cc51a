/-
  No cell of these rows narrows 'for every input' (looked for: loops, veiled, ifaces, maps, wideKeys, modest, calm, conditions, laid).
  DERIVED. THE GIVEN ROWS OF THIS SEAT. 7 by the template 'for every input the law returns true; each argument reads behind the call as it read before'; 0 by the template 'total and deterministic' (their statements: YtfddefenmlcecaaTotals.lean).
  GIVEN WITH THE SEED: the statements are not yours to turn. If you find one false, say at which input.
  Laid BY PROGRAM, IN A SANDBOX (cutbox-rows.mjs): the forced cells as the released guide's own fill.sh prints them over the translation 80e2053fee86706e… (all of the seat's roots in one cut). By AI agents, Wed Nov 11 2026. No macro, syntax, notation, axiom, sorry.
-/
import Derived.Test.YtfddefenmlcecaaChecked
import GoSem.Claim
import GoSem.ClaimJoined
import GoSem.ClaimMapViews
import Derived.JoinedTies
import Derived.KernelRfl
namespace Go.Proofs.Ytfddefenmlcecaa
/- THE CELL 'sum', in the pinned program and in every row, IS THE sha256 OF THE DUMP (.gsa) THAT YtfddefenmlcecaaProg.lean LOADS. Nothing in Lean hashes anything: it is a label: what it is worth is what the hold of that sum in a sandbox is worth. -/
noncomputable def Try.pinned : Pinned := { name := "ytfddefenmlcecaa", sum := "80e2053fee86706e072d3ec44046e7fadf5d82a126d9fa824414ec846f8b8935", checked := Try.checked }
namespace Rows
def none {H : Type} : Left H := { results := [], args := [] }

/-- 'dolelaw08.RunqPlays': WHATEVER THE INPUT: true; the input reads as it did. -/
def runqPlaysSpec : ChangeSpec := { name := "runqPlays", fn := fun _ => fun
  | [d] => { results := [.lit (.bool true)], args := [d] }
  | _ => none }
def runqPlaysRow : OpenClaim := { program := "ytfddefenmlcecaa", sum := "80e2053fee86706e072d3ec44046e7fadf5d82a126d9fa824414ec846f8b8935", func := "dole/dolelaw08.RunqPlays", spec := "runqPlays", unfollowed := true, recurses := true, named := ["math/bits.divideError", "math/bits.overflowError"], apart := false }
def RunqPlaysSaid : Prop := runqPlaysRow.holds Try.pinned (OpenSpec.ofChange runqPlaysSpec)

/-- ITS FALSE NEIGHBOUR: 'it returns false'. Refute it at one input. -/
def runqPlaysWrong : ChangeSpec := { name := "runqPlays", fn := fun _ => fun
  | [d] => { results := [.lit (.bool false)], args := [d] }
  | _ => none }
def RunqPlaysWrongFalsely : Prop := runqPlaysRow.holds Try.pinned (OpenSpec.ofChange runqPlaysWrong)

/-- 'dolelaw08.RunqNear': WHATEVER THE INPUT: true; the input reads as it did. -/
def runqNearSpec : ChangeSpec := { name := "runqNear", fn := fun _ => fun
  | [d1, d2] => { results := [.lit (.bool true)], args := [d1, d2] }
  | _ => none }
def runqNearRow : OpenClaim := { program := "ytfddefenmlcecaa", sum := "80e2053fee86706e072d3ec44046e7fadf5d82a126d9fa824414ec846f8b8935", func := "dole/dolelaw08.RunqNear", spec := "runqNear", unfollowed := true, recurses := true, named := ["math/bits.divideError", "math/bits.overflowError"], apart := false }
def RunqNearSaid : Prop := runqNearRow.holds Try.pinned (OpenSpec.ofChange runqNearSpec)

/-- ITS FALSE NEIGHBOUR: 'it returns false'. Refute it at one input. -/
def runqNearWrong : ChangeSpec := { name := "runqNear", fn := fun _ => fun
  | [d1, d2] => { results := [.lit (.bool false)], args := [d1, d2] }
  | _ => none }
def RunqNearWrongFalsely : Prop := runqNearRow.holds Try.pinned (OpenSpec.ofChange runqNearWrong)

/-- 'dolelaw08.RunqFair': WHATEVER THE INPUT: true; the input reads as it did. -/
def runqFairSpec : ChangeSpec := { name := "runqFair", fn := fun _ => fun
  | [d1, d2, d3] => { results := [.lit (.bool true)], args := [d1, d2, d3] }
  | _ => none }
def runqFairRow : OpenClaim := { program := "ytfddefenmlcecaa", sum := "80e2053fee86706e072d3ec44046e7fadf5d82a126d9fa824414ec846f8b8935", func := "dole/dolelaw08.RunqFair", spec := "runqFair", unfollowed := true, recurses := true, named := ["math/bits.divideError", "math/bits.overflowError"], apart := false }
def RunqFairSaid : Prop := runqFairRow.holds Try.pinned (OpenSpec.ofChange runqFairSpec)

/-- ITS FALSE NEIGHBOUR: 'it returns false'. Refute it at one input. -/
def runqFairWrong : ChangeSpec := { name := "runqFair", fn := fun _ => fun
  | [d1, d2, d3] => { results := [.lit (.bool false)], args := [d1, d2, d3] }
  | _ => none }
def RunqFairWrongFalsely : Prop := runqFairRow.holds Try.pinned (OpenSpec.ofChange runqFairWrong)

/-- 'dolelaw08.RunqComes': WHATEVER THE INPUT: true; the input reads as it did. -/
def runqComesSpec : ChangeSpec := { name := "runqComes", fn := fun _ => fun
  | [d1, d2, d3] => { results := [.lit (.bool true)], args := [d1, d2, d3] }
  | _ => none }
def runqComesRow : OpenClaim := { program := "ytfddefenmlcecaa", sum := "80e2053fee86706e072d3ec44046e7fadf5d82a126d9fa824414ec846f8b8935", func := "dole/dolelaw08.RunqComes", spec := "runqComes", unfollowed := true, recurses := true, named := ["math/bits.divideError", "math/bits.overflowError"], apart := false }
def RunqComesSaid : Prop := runqComesRow.holds Try.pinned (OpenSpec.ofChange runqComesSpec)

/-- ITS FALSE NEIGHBOUR: 'it returns false'. Refute it at one input. -/
def runqComesWrong : ChangeSpec := { name := "runqComes", fn := fun _ => fun
  | [d1, d2, d3] => { results := [.lit (.bool false)], args := [d1, d2, d3] }
  | _ => none }
def RunqComesWrongFalsely : Prop := runqComesRow.holds Try.pinned (OpenSpec.ofChange runqComesWrong)

/-- 'dolelaw08.RunqAlone': WHATEVER THE INPUT: true; the input reads as it did. -/
def runqAloneSpec : ChangeSpec := { name := "runqAlone", fn := fun _ => fun
  | [d1, d2, d3] => { results := [.lit (.bool true)], args := [d1, d2, d3] }
  | _ => none }
def runqAloneRow : OpenClaim := { program := "ytfddefenmlcecaa", sum := "80e2053fee86706e072d3ec44046e7fadf5d82a126d9fa824414ec846f8b8935", func := "dole/dolelaw08.RunqAlone", spec := "runqAlone", unfollowed := true, recurses := true, named := ["math/bits.divideError", "math/bits.overflowError"], apart := false }
def RunqAloneSaid : Prop := runqAloneRow.holds Try.pinned (OpenSpec.ofChange runqAloneSpec)

/-- ITS FALSE NEIGHBOUR: 'it returns false'. Refute it at one input. -/
def runqAloneWrong : ChangeSpec := { name := "runqAlone", fn := fun _ => fun
  | [d1, d2, d3] => { results := [.lit (.bool false)], args := [d1, d2, d3] }
  | _ => none }
def RunqAloneWrongFalsely : Prop := runqAloneRow.holds Try.pinned (OpenSpec.ofChange runqAloneWrong)

/-- 'dolelaw08.RunqDrops': WHATEVER THE INPUT: true; the input reads as it did. -/
def runqDropsSpec : ChangeSpec := { name := "runqDrops", fn := fun _ => fun
  | [d1, d2] => { results := [.lit (.bool true)], args := [d1, d2] }
  | _ => none }
def runqDropsRow : OpenClaim := { program := "ytfddefenmlcecaa", sum := "80e2053fee86706e072d3ec44046e7fadf5d82a126d9fa824414ec846f8b8935", func := "dole/dolelaw08.RunqDrops", spec := "runqDrops", unfollowed := true, recurses := true, apart := false }
def RunqDropsSaid : Prop := runqDropsRow.holds Try.pinned (OpenSpec.ofChange runqDropsSpec)

/-- ITS FALSE NEIGHBOUR: 'it returns false'. Refute it at one input. -/
def runqDropsWrong : ChangeSpec := { name := "runqDrops", fn := fun _ => fun
  | [d1, d2] => { results := [.lit (.bool false)], args := [d1, d2] }
  | _ => none }
def RunqDropsWrongFalsely : Prop := runqDropsRow.holds Try.pinned (OpenSpec.ofChange runqDropsWrong)

/-- 'dolelaw08.RunqNobody': WHATEVER THE INPUT: true; the input reads as it did. -/
def runqNobodySpec : ChangeSpec := { name := "runqNobody", fn := fun _ => fun
  | [d1, d2] => { results := [.lit (.bool true)], args := [d1, d2] }
  | _ => none }
def runqNobodyRow : OpenClaim := { program := "ytfddefenmlcecaa", sum := "80e2053fee86706e072d3ec44046e7fadf5d82a126d9fa824414ec846f8b8935", func := "dole/dolelaw08.RunqNobody", spec := "runqNobody", unfollowed := true, recurses := true, named := ["math/bits.divideError", "math/bits.overflowError"], apart := false }
def RunqNobodySaid : Prop := runqNobodyRow.holds Try.pinned (OpenSpec.ofChange runqNobodySpec)

/-- ITS FALSE NEIGHBOUR: 'it returns false'. Refute it at one input. -/
def runqNobodyWrong : ChangeSpec := { name := "runqNobody", fn := fun _ => fun
  | [d1, d2] => { results := [.lit (.bool false)], args := [d1, d2] }
  | _ => none }
def RunqNobodyWrongFalsely : Prop := runqNobodyRow.holds Try.pinned (OpenSpec.ofChange runqNobodyWrong)

/- THE SECOND FORM. 'bulk': how many values and letters a reading holds, each counted each time it is reached (what is shared counts as often as it is met; a slice's spare places count too). A statement '..UptoSaid' is the law's where the arguments, and the package variables that the reading takes, are together of bulk at most 1048576: NARROWER than '..Said'. Prove '..Said' where nothing that the law and all that it calls make is longer than what came in: it says more and counts as full. Else prove '..UptoSaid'. A law counts once. -/
mutual
def uptoBulk {H : Type} : DataW H → Nat
  | .lit (.string bytes) => bytes.length + 1
  | .lit _ => 1
  | .nil => 1
  | .ptr d => uptoBulk d + 1
  | .slice elems spare => uptoBulkAll elems + uptoBulkAll spare + 1
  | .agg parts => uptoBulkAll parts + 1
  | .iface _ d => uptoBulk d + 1
  | .map entries => uptoBulkEntries entries + 1
  | .held _ => 1
def uptoBulkAll {H : Type} : List (DataW H) → Nat
  | [] => 0
  | d :: r => uptoBulk d + uptoBulkAll r
def uptoBulkEntries {H : Type} : List (Lit × DataW H) → Nat
  | [] => 0
  | x :: r => uptoBulkEntry x + uptoBulkEntries r
def uptoBulkEntry {H : Type} : Lit × DataW H → Nat
  | (.string bytes, d) => bytes.length + uptoBulk d + 1
  | (_, d) => uptoBulk d + 1
 end
def uptoSmall : (H : Type) → List (DataW H) → Bool := fun _ ds => decide (uptoBulkAll ds ≤ 1048576)
def OpenSpec.upto (s : _root_.Go.ChangeSpec) : _root_.Go.OpenSpec := { _root_.Go.OpenSpec.ofChange s with cond := some uptoSmall }

/-- 'dolelaw08.RunqPlays', WHERE WHAT IT READS IS OF BULK AT MOST 1048576: true; the input reads as it did. -/
def runqPlaysUptoRow : OpenClaim := { program := "ytfddefenmlcecaa", sum := "80e2053fee86706e072d3ec44046e7fadf5d82a126d9fa824414ec846f8b8935", func := "dole/dolelaw08.RunqPlays", spec := "runqPlays", unfollowed := true, recurses := true, named := ["math/bits.divideError", "math/bits.overflowError"], apart := false, narrowed := true }
def RunqPlaysUptoSaid : Prop := runqPlaysUptoRow.holds Try.pinned (OpenSpec.upto runqPlaysSpec)

/-- 'dolelaw08.RunqNear', WHERE WHAT IT READS IS OF BULK AT MOST 1048576: true; the input reads as it did. -/
def runqNearUptoRow : OpenClaim := { program := "ytfddefenmlcecaa", sum := "80e2053fee86706e072d3ec44046e7fadf5d82a126d9fa824414ec846f8b8935", func := "dole/dolelaw08.RunqNear", spec := "runqNear", unfollowed := true, recurses := true, named := ["math/bits.divideError", "math/bits.overflowError"], apart := false, narrowed := true }
def RunqNearUptoSaid : Prop := runqNearUptoRow.holds Try.pinned (OpenSpec.upto runqNearSpec)

/-- 'dolelaw08.RunqFair', WHERE WHAT IT READS IS OF BULK AT MOST 1048576: true; the input reads as it did. -/
def runqFairUptoRow : OpenClaim := { program := "ytfddefenmlcecaa", sum := "80e2053fee86706e072d3ec44046e7fadf5d82a126d9fa824414ec846f8b8935", func := "dole/dolelaw08.RunqFair", spec := "runqFair", unfollowed := true, recurses := true, named := ["math/bits.divideError", "math/bits.overflowError"], apart := false, narrowed := true }
def RunqFairUptoSaid : Prop := runqFairUptoRow.holds Try.pinned (OpenSpec.upto runqFairSpec)

/-- 'dolelaw08.RunqComes', WHERE WHAT IT READS IS OF BULK AT MOST 1048576: true; the input reads as it did. -/
def runqComesUptoRow : OpenClaim := { program := "ytfddefenmlcecaa", sum := "80e2053fee86706e072d3ec44046e7fadf5d82a126d9fa824414ec846f8b8935", func := "dole/dolelaw08.RunqComes", spec := "runqComes", unfollowed := true, recurses := true, named := ["math/bits.divideError", "math/bits.overflowError"], apart := false, narrowed := true }
def RunqComesUptoSaid : Prop := runqComesUptoRow.holds Try.pinned (OpenSpec.upto runqComesSpec)

/-- 'dolelaw08.RunqAlone', WHERE WHAT IT READS IS OF BULK AT MOST 1048576: true; the input reads as it did. -/
def runqAloneUptoRow : OpenClaim := { program := "ytfddefenmlcecaa", sum := "80e2053fee86706e072d3ec44046e7fadf5d82a126d9fa824414ec846f8b8935", func := "dole/dolelaw08.RunqAlone", spec := "runqAlone", unfollowed := true, recurses := true, named := ["math/bits.divideError", "math/bits.overflowError"], apart := false, narrowed := true }
def RunqAloneUptoSaid : Prop := runqAloneUptoRow.holds Try.pinned (OpenSpec.upto runqAloneSpec)

/-- 'dolelaw08.RunqDrops', WHERE WHAT IT READS IS OF BULK AT MOST 1048576: true; the input reads as it did. -/
def runqDropsUptoRow : OpenClaim := { program := "ytfddefenmlcecaa", sum := "80e2053fee86706e072d3ec44046e7fadf5d82a126d9fa824414ec846f8b8935", func := "dole/dolelaw08.RunqDrops", spec := "runqDrops", unfollowed := true, recurses := true, apart := false, narrowed := true }
def RunqDropsUptoSaid : Prop := runqDropsUptoRow.holds Try.pinned (OpenSpec.upto runqDropsSpec)

/-- 'dolelaw08.RunqNobody', WHERE WHAT IT READS IS OF BULK AT MOST 1048576: true; the input reads as it did. -/
def runqNobodyUptoRow : OpenClaim := { program := "ytfddefenmlcecaa", sum := "80e2053fee86706e072d3ec44046e7fadf5d82a126d9fa824414ec846f8b8935", func := "dole/dolelaw08.RunqNobody", spec := "runqNobody", unfollowed := true, recurses := true, named := ["math/bits.divideError", "math/bits.overflowError"], apart := false, narrowed := true }
def RunqNobodyUptoSaid : Prop := runqNobodyUptoRow.holds Try.pinned (OpenSpec.upto runqNobodySpec)

end Rows
end Go.Proofs.Ytfddefenmlcecaa
