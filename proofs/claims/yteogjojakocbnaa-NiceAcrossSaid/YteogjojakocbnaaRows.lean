/-
  No cell of these rows narrows 'for every input' (looked for: loops, veiled, ifaces, maps, wideKeys, modest, calm, conditions, laid).
  DERIVED. THE GIVEN ROWS OF THIS SEAT. 7 by the template 'for every input the law returns true; each argument reads behind the call as it read before'; 0 by the template 'total and deterministic' (their statements: YteogjojakocbnaaTotals.lean).
  GIVEN WITH THE SEED: the statements are not yours to turn. If you find one false, say at which input.
  Laid BY PROGRAM, IN A SANDBOX (cutbox-rows.mjs): the forced cells as the released guide's own fill.sh prints them over the translation dd8debf75bb9d48b… (all of the seat's roots in one cut). By AI agents, Wed Nov 11 2026. No macro, syntax, notation, axiom, sorry.
-/
import Derived.Test.YteogjojakocbnaaChecked
import GoSem.Claim
import GoSem.ClaimJoined
import GoSem.ClaimMapViews
import Derived.JoinedTies
import Derived.KernelRfl
namespace Go.Proofs.Yteogjojakocbnaa
/- THE CELL 'sum', in the pinned program and in every row, IS THE sha256 OF THE DUMP (.gsa) THAT YteogjojakocbnaaProg.lean LOADS. Nothing in Lean hashes anything: it is a label: what it is worth is what the hold of that sum in a sandbox is worth. -/
noncomputable def Try.pinned : Pinned := { name := "yteogjojakocbnaa", sum := "dd8debf75bb9d48b46466f361b99cb41479e20ce0da7e15b875cca7740b91d53", checked := Try.checked }
namespace Rows
def none {H : Type} : Left H := { results := [], args := [] }

/-- 'dolelaw03.NiceWeights': WHATEVER THE INPUT: true; the input reads as it did. -/
def niceWeightsSpec : ChangeSpec := { name := "niceWeights", fn := fun _ => fun
  | [d] => { results := [.lit (.bool true)], args := [d] }
  | _ => none }
def niceWeightsRow : OpenClaim := { program := "yteogjojakocbnaa", sum := "dd8debf75bb9d48b46466f361b99cb41479e20ce0da7e15b875cca7740b91d53", func := "dole/dolelaw03.NiceWeights", spec := "niceWeights", unfollowed := true, recurses := true, named := ["math/bits.divideError", "math/bits.overflowError"], apart := false }
def NiceWeightsSaid : Prop := niceWeightsRow.holds Try.pinned (OpenSpec.ofChange niceWeightsSpec)

/-- ITS FALSE NEIGHBOUR: 'it returns false'. Refute it at one input. -/
def niceWeightsWrong : ChangeSpec := { name := "niceWeights", fn := fun _ => fun
  | [d] => { results := [.lit (.bool false)], args := [d] }
  | _ => none }
def NiceWeightsWrongFalsely : Prop := niceWeightsRow.holds Try.pinned (OpenSpec.ofChange niceWeightsWrong)

/-- 'dolelaw03.NiceNearest': WHATEVER THE INPUT: true; the input reads as it did. -/
def niceNearestSpec : ChangeSpec := { name := "niceNearest", fn := fun _ => fun
  | [d] => { results := [.lit (.bool true)], args := [d] }
  | _ => none }
def niceNearestRow : OpenClaim := { program := "yteogjojakocbnaa", sum := "dd8debf75bb9d48b46466f361b99cb41479e20ce0da7e15b875cca7740b91d53", func := "dole/dolelaw03.NiceNearest", spec := "niceNearest", unfollowed := true, recurses := true, named := ["math/bits.divideError", "math/bits.overflowError"], apart := false }
def NiceNearestSaid : Prop := niceNearestRow.holds Try.pinned (OpenSpec.ofChange niceNearestSpec)

/-- ITS FALSE NEIGHBOUR: 'it returns false'. Refute it at one input. -/
def niceNearestWrong : ChangeSpec := { name := "niceNearest", fn := fun _ => fun
  | [d] => { results := [.lit (.bool false)], args := [d] }
  | _ => none }
def NiceNearestWrongFalsely : Prop := niceNearestRow.holds Try.pinned (OpenSpec.ofChange niceNearestWrong)

/-- 'dolelaw03.NiceFalls': WHATEVER THE INPUT: true; the input reads as it did. -/
def niceFallsSpec : ChangeSpec := { name := "niceFalls", fn := fun _ => fun
  | [d] => { results := [.lit (.bool true)], args := [d] }
  | _ => none }
def niceFallsRow : OpenClaim := { program := "yteogjojakocbnaa", sum := "dd8debf75bb9d48b46466f361b99cb41479e20ce0da7e15b875cca7740b91d53", func := "dole/dolelaw03.NiceFalls", spec := "niceFalls", unfollowed := true, recurses := true, named := ["math/bits.divideError", "math/bits.overflowError"], apart := false }
def NiceFallsSaid : Prop := niceFallsRow.holds Try.pinned (OpenSpec.ofChange niceFallsSpec)

/-- ITS FALSE NEIGHBOUR: 'it returns false'. Refute it at one input. -/
def niceFallsWrong : ChangeSpec := { name := "niceFalls", fn := fun _ => fun
  | [d] => { results := [.lit (.bool false)], args := [d] }
  | _ => none }
def NiceFallsWrongFalsely : Prop := niceFallsRow.holds Try.pinned (OpenSpec.ofChange niceFallsWrong)

/-- 'dolelaw03.NiceBack': WHATEVER THE INPUT: true; the input reads as it did. -/
def niceBackSpec : ChangeSpec := { name := "niceBack", fn := fun _ => fun
  | [d1, d2] => { results := [.lit (.bool true)], args := [d1, d2] }
  | _ => none }
def niceBackRow : OpenClaim := { program := "yteogjojakocbnaa", sum := "dd8debf75bb9d48b46466f361b99cb41479e20ce0da7e15b875cca7740b91d53", func := "dole/dolelaw03.NiceBack", spec := "niceBack", unfollowed := true, recurses := true, named := ["math/bits.divideError", "math/bits.overflowError"], apart := false }
def NiceBackSaid : Prop := niceBackRow.holds Try.pinned (OpenSpec.ofChange niceBackSpec)

/-- ITS FALSE NEIGHBOUR: 'it returns false'. Refute it at one input. -/
def niceBackWrong : ChangeSpec := { name := "niceBack", fn := fun _ => fun
  | [d1, d2] => { results := [.lit (.bool false)], args := [d1, d2] }
  | _ => none }
def NiceBackWrongFalsely : Prop := niceBackRow.holds Try.pinned (OpenSpec.ofChange niceBackWrong)

/-- 'dolelaw03.NiceAcross': WHATEVER THE INPUT: true; the input reads as it did. -/
def niceAcrossSpec : ChangeSpec := { name := "niceAcross", fn := fun _ => fun
  | [d] => { results := [.lit (.bool true)], args := [d] }
  | _ => none }
def niceAcrossRow : OpenClaim := { program := "yteogjojakocbnaa", sum := "dd8debf75bb9d48b46466f361b99cb41479e20ce0da7e15b875cca7740b91d53", func := "dole/dolelaw03.NiceAcross", spec := "niceAcross", unfollowed := true, recurses := true, named := ["math/bits.divideError", "math/bits.overflowError"], apart := false }
def NiceAcrossSaid : Prop := niceAcrossRow.holds Try.pinned (OpenSpec.ofChange niceAcrossSpec)

/-- ITS FALSE NEIGHBOUR: 'it returns false'. Refute it at one input. -/
def niceAcrossWrong : ChangeSpec := { name := "niceAcross", fn := fun _ => fun
  | [d] => { results := [.lit (.bool false)], args := [d] }
  | _ => none }
def NiceAcrossWrongFalsely : Prop := niceAcrossRow.holds Try.pinned (OpenSpec.ofChange niceAcrossWrong)

/-- 'dolelaw03.NiceHolds': WHATEVER THE INPUT: true; the input reads as it did. -/
def niceHoldsSpec : ChangeSpec := { name := "niceHolds", fn := fun _ => fun
  | [d1, d2] => { results := [.lit (.bool true)], args := [d1, d2] }
  | _ => none }
def niceHoldsRow : OpenClaim := { program := "yteogjojakocbnaa", sum := "dd8debf75bb9d48b46466f361b99cb41479e20ce0da7e15b875cca7740b91d53", func := "dole/dolelaw03.NiceHolds", spec := "niceHolds", unfollowed := true, recurses := true, named := ["math/bits.divideError", "math/bits.overflowError"], apart := false }
def NiceHoldsSaid : Prop := niceHoldsRow.holds Try.pinned (OpenSpec.ofChange niceHoldsSpec)

/-- ITS FALSE NEIGHBOUR: 'it returns false'. Refute it at one input. -/
def niceHoldsWrong : ChangeSpec := { name := "niceHolds", fn := fun _ => fun
  | [d1, d2] => { results := [.lit (.bool false)], args := [d1, d2] }
  | _ => none }
def NiceHoldsWrongFalsely : Prop := niceHoldsRow.holds Try.pinned (OpenSpec.ofChange niceHoldsWrong)

/-- 'dolelaw03.NiceNone': WHATEVER THE INPUT: true; the input reads as it did. -/
def niceNoneSpec : ChangeSpec := { name := "niceNone", fn := fun _ => fun
  | [d] => { results := [.lit (.bool true)], args := [d] }
  | _ => none }
def niceNoneRow : OpenClaim := { program := "yteogjojakocbnaa", sum := "dd8debf75bb9d48b46466f361b99cb41479e20ce0da7e15b875cca7740b91d53", func := "dole/dolelaw03.NiceNone", spec := "niceNone", unfollowed := true, recurses := true, named := ["math/bits.divideError", "math/bits.overflowError"], apart := false }
def NiceNoneSaid : Prop := niceNoneRow.holds Try.pinned (OpenSpec.ofChange niceNoneSpec)

/-- ITS FALSE NEIGHBOUR: 'it returns false'. Refute it at one input. -/
def niceNoneWrong : ChangeSpec := { name := "niceNone", fn := fun _ => fun
  | [d] => { results := [.lit (.bool false)], args := [d] }
  | _ => none }
def NiceNoneWrongFalsely : Prop := niceNoneRow.holds Try.pinned (OpenSpec.ofChange niceNoneWrong)

/- THE SECOND FORM. 'bulk': how many values and letters a reading holds, each counted each time it is reached (what is shared counts as often as it is met; a slice's spare places count too). A statement '..UptoSaid' is the law's where the arguments, and the package variables that the reading takes, are together of bulk at most 1048576: NARROWER than '..Said'. Prove '..Said' where nothing that the law and all that it calls make is longer than what came in: it says more and counts as full. Else prove '..UptoSaid'. A law counts once. -/
mutual
def uptoBulk {H : Type} : DataW H → Nat
  | .lit (.string bytes) => bytes.length + 1
  | .lit _ => 1
  | .nil => 1
  | .ptr d => uptoBulk d + 1
  | .slice elems spare => uptoBulkAll elems + uptoBulkAll spare + 1
  | .agg parts => uptoBulkAll parts + 1
  | .iface _ d => uptoBulk d + 1
  | .map entries => uptoBulkEntries entries + 1
  | .held _ => 1
def uptoBulkAll {H : Type} : List (DataW H) → Nat
  | [] => 0
  | d :: r => uptoBulk d + uptoBulkAll r
def uptoBulkEntries {H : Type} : List (Lit × DataW H) → Nat
  | [] => 0
  | x :: r => uptoBulkEntry x + uptoBulkEntries r
def uptoBulkEntry {H : Type} : Lit × DataW H → Nat
  | (.string bytes, d) => bytes.length + uptoBulk d + 1
  | (_, d) => uptoBulk d + 1
 end
def uptoSmall : (H : Type) → List (DataW H) → Bool := fun _ ds => decide (uptoBulkAll ds ≤ 1048576)
def OpenSpec.upto (s : _root_.Go.ChangeSpec) : _root_.Go.OpenSpec := { _root_.Go.OpenSpec.ofChange s with cond := some uptoSmall }

/-- 'dolelaw03.NiceWeights', WHERE WHAT IT READS IS OF BULK AT MOST 1048576: true; the input reads as it did. -/
def niceWeightsUptoRow : OpenClaim := { program := "yteogjojakocbnaa", sum := "dd8debf75bb9d48b46466f361b99cb41479e20ce0da7e15b875cca7740b91d53", func := "dole/dolelaw03.NiceWeights", spec := "niceWeights", unfollowed := true, recurses := true, named := ["math/bits.divideError", "math/bits.overflowError"], apart := false, narrowed := true }
def NiceWeightsUptoSaid : Prop := niceWeightsUptoRow.holds Try.pinned (OpenSpec.upto niceWeightsSpec)

/-- 'dolelaw03.NiceNearest', WHERE WHAT IT READS IS OF BULK AT MOST 1048576: true; the input reads as it did. -/
def niceNearestUptoRow : OpenClaim := { program := "yteogjojakocbnaa", sum := "dd8debf75bb9d48b46466f361b99cb41479e20ce0da7e15b875cca7740b91d53", func := "dole/dolelaw03.NiceNearest", spec := "niceNearest", unfollowed := true, recurses := true, named := ["math/bits.divideError", "math/bits.overflowError"], apart := false, narrowed := true }
def NiceNearestUptoSaid : Prop := niceNearestUptoRow.holds Try.pinned (OpenSpec.upto niceNearestSpec)

/-- 'dolelaw03.NiceFalls', WHERE WHAT IT READS IS OF BULK AT MOST 1048576: true; the input reads as it did. -/
def niceFallsUptoRow : OpenClaim := { program := "yteogjojakocbnaa", sum := "dd8debf75bb9d48b46466f361b99cb41479e20ce0da7e15b875cca7740b91d53", func := "dole/dolelaw03.NiceFalls", spec := "niceFalls", unfollowed := true, recurses := true, named := ["math/bits.divideError", "math/bits.overflowError"], apart := false, narrowed := true }
def NiceFallsUptoSaid : Prop := niceFallsUptoRow.holds Try.pinned (OpenSpec.upto niceFallsSpec)

/-- 'dolelaw03.NiceBack', WHERE WHAT IT READS IS OF BULK AT MOST 1048576: true; the input reads as it did. -/
def niceBackUptoRow : OpenClaim := { program := "yteogjojakocbnaa", sum := "dd8debf75bb9d48b46466f361b99cb41479e20ce0da7e15b875cca7740b91d53", func := "dole/dolelaw03.NiceBack", spec := "niceBack", unfollowed := true, recurses := true, named := ["math/bits.divideError", "math/bits.overflowError"], apart := false, narrowed := true }
def NiceBackUptoSaid : Prop := niceBackUptoRow.holds Try.pinned (OpenSpec.upto niceBackSpec)

/-- 'dolelaw03.NiceAcross', WHERE WHAT IT READS IS OF BULK AT MOST 1048576: true; the input reads as it did. -/
def niceAcrossUptoRow : OpenClaim := { program := "yteogjojakocbnaa", sum := "dd8debf75bb9d48b46466f361b99cb41479e20ce0da7e15b875cca7740b91d53", func := "dole/dolelaw03.NiceAcross", spec := "niceAcross", unfollowed := true, recurses := true, named := ["math/bits.divideError", "math/bits.overflowError"], apart := false, narrowed := true }
def NiceAcrossUptoSaid : Prop := niceAcrossUptoRow.holds Try.pinned (OpenSpec.upto niceAcrossSpec)

/-- 'dolelaw03.NiceHolds', WHERE WHAT IT READS IS OF BULK AT MOST 1048576: true; the input reads as it did. -/
def niceHoldsUptoRow : OpenClaim := { program := "yteogjojakocbnaa", sum := "dd8debf75bb9d48b46466f361b99cb41479e20ce0da7e15b875cca7740b91d53", func := "dole/dolelaw03.NiceHolds", spec := "niceHolds", unfollowed := true, recurses := true, named := ["math/bits.divideError", "math/bits.overflowError"], apart := false, narrowed := true }
def NiceHoldsUptoSaid : Prop := niceHoldsUptoRow.holds Try.pinned (OpenSpec.upto niceHoldsSpec)

/-- 'dolelaw03.NiceNone', WHERE WHAT IT READS IS OF BULK AT MOST 1048576: true; the input reads as it did. -/
def niceNoneUptoRow : OpenClaim := { program := "yteogjojakocbnaa", sum := "dd8debf75bb9d48b46466f361b99cb41479e20ce0da7e15b875cca7740b91d53", func := "dole/dolelaw03.NiceNone", spec := "niceNone", unfollowed := true, recurses := true, named := ["math/bits.divideError", "math/bits.overflowError"], apart := false, narrowed := true }
def NiceNoneUptoSaid : Prop := niceNoneUptoRow.holds Try.pinned (OpenSpec.upto niceNoneSpec)

end Rows
end Go.Proofs.Yteogjojakocbnaa
