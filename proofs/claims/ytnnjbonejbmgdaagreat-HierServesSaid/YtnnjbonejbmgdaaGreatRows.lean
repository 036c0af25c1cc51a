/-
  No cell of these rows narrows 'for every input' (looked for: loops, veiled, ifaces, maps, wideKeys, modest, calm, conditions, laid).
  DERIVED. THE GIVEN ROWS OF THIS SEAT. 6 by the template 'for every input the law returns true; each argument reads behind the call as it read before'; 0 by the template 'total and deterministic' (their statements: YtnnjbonejbmgdaaGreatTotals.lean).
  GIVEN WITH THE SEED: the statements are not yours to turn. If you find one false, say at which input.
  Laid BY PROGRAM, IN A SANDBOX (cutbox-rows.mjs): the forced cells as the released guide's own fill.sh prints them over the translation 5de2b01dc28c5b85… (all of the seat's roots in one cut). By AI agents, Wed Nov 11 2026. No macro, syntax, notation, axiom, sorry.
-/
import Derived.Test.YtnnjbonejbmgdaaGreatChecked
import GoSem.Claim
import GoSem.ClaimJoined
import GoSem.ClaimMapViews
import Derived.JoinedTies
import Derived.KernelRfl
namespace Go.Proofs.YtnnjbonejbmgdaaGreat
/- THE CELL 'sum', in the pinned program and in every row, IS THE sha256 OF THE DUMP (.gsa) THAT YtnnjbonejbmgdaaGreatProg.lean LOADS. Nothing in Lean hashes anything: it is a label: what it is worth is what the hold of that sum in a sandbox is worth. -/
noncomputable def Tryz.pinned : Pinned := { name := "ytnnjbonejbmgdaagreat", sum := "5de2b01dc28c5b85c90dc67413681bcc489584f8ea3b656d998566a992a7a0df", checked := Tryz.checked }
namespace Rows
def none {H : Type} : Left H := { results := [], args := [] }

/-- 'dolelaw20.HierPlays': WHATEVER THE INPUT: true; the input reads as it did. -/
def hierPlaysSpec : ChangeSpec := { name := "hierPlays", fn := fun _ => fun
  | [d1, d2, d3] => { results := [.lit (.bool true)], args := [d1, d2, d3] }
  | _ => none }
def hierPlaysRow : OpenClaim := { program := "ytnnjbonejbmgdaagreat", sum := "5de2b01dc28c5b85c90dc67413681bcc489584f8ea3b656d998566a992a7a0df", func := "dole/dolelaw20.HierPlays", spec := "hierPlays", unfollowed := true, recurses := true, named := ["math/bits.divideError", "math/bits.overflowError"], apart := false }
def HierPlaysSaid : Prop := hierPlaysRow.holds Tryz.pinned (OpenSpec.ofChange hierPlaysSpec)

/-- ITS FALSE NEIGHBOUR: 'it returns false'. Refute it at one input. -/
def hierPlaysWrong : ChangeSpec := { name := "hierPlays", fn := fun _ => fun
  | [d1, d2, d3] => { results := [.lit (.bool false)], args := [d1, d2, d3] }
  | _ => none }
def HierPlaysWrongFalsely : Prop := hierPlaysRow.holds Tryz.pinned (OpenSpec.ofChange hierPlaysWrong)

/-- 'dolelaw20.HierRuns': WHATEVER THE INPUT: true; the input reads as it did. -/
def hierRunsSpec : ChangeSpec := { name := "hierRuns", fn := fun _ => fun
  | [d1, d2] => { results := [.lit (.bool true)], args := [d1, d2] }
  | _ => none }
def hierRunsRow : OpenClaim := { program := "ytnnjbonejbmgdaagreat", sum := "5de2b01dc28c5b85c90dc67413681bcc489584f8ea3b656d998566a992a7a0df", func := "dole/dolelaw20.HierRuns", spec := "hierRuns", unfollowed := true, recurses := true, named := ["math/bits.divideError", "math/bits.overflowError"], apart := false }
def HierRunsSaid : Prop := hierRunsRow.holds Tryz.pinned (OpenSpec.ofChange hierRunsSpec)

/-- ITS FALSE NEIGHBOUR: 'it returns false'. Refute it at one input. -/
def hierRunsWrong : ChangeSpec := { name := "hierRuns", fn := fun _ => fun
  | [d1, d2] => { results := [.lit (.bool false)], args := [d1, d2] }
  | _ => none }
def HierRunsWrongFalsely : Prop := hierRunsRow.holds Tryz.pinned (OpenSpec.ofChange hierRunsWrong)

/-- 'dolelaw20.HierStands': WHATEVER THE INPUT: true; the input reads as it did. -/
def hierStandsSpec : ChangeSpec := { name := "hierStands", fn := fun _ => fun
  | [d1, d2] => { results := [.lit (.bool true)], args := [d1, d2] }
  | _ => none }
def hierStandsRow : OpenClaim := { program := "ytnnjbonejbmgdaagreat", sum := "5de2b01dc28c5b85c90dc67413681bcc489584f8ea3b656d998566a992a7a0df", func := "dole/dolelaw20.HierStands", spec := "hierStands", unfollowed := true, recurses := true, named := ["math/bits.divideError", "math/bits.overflowError"], apart := false }
def HierStandsSaid : Prop := hierStandsRow.holds Tryz.pinned (OpenSpec.ofChange hierStandsSpec)

/-- ITS FALSE NEIGHBOUR: 'it returns false'. Refute it at one input. -/
def hierStandsWrong : ChangeSpec := { name := "hierStands", fn := fun _ => fun
  | [d1, d2] => { results := [.lit (.bool false)], args := [d1, d2] }
  | _ => none }
def HierStandsWrongFalsely : Prop := hierStandsRow.holds Tryz.pinned (OpenSpec.ofChange hierStandsWrong)

/-- 'dolelaw20.HierServes': WHATEVER THE INPUT: true; the input reads as it did. -/
def hierServesSpec : ChangeSpec := { name := "hierServes", fn := fun _ => fun
  | [d1, d2, d3] => { results := [.lit (.bool true)], args := [d1, d2, d3] }
  | _ => none }
def hierServesRow : OpenClaim := { program := "ytnnjbonejbmgdaagreat", sum := "5de2b01dc28c5b85c90dc67413681bcc489584f8ea3b656d998566a992a7a0df", func := "dole/dolelaw20.HierServes", spec := "hierServes", unfollowed := true, recurses := true, named := ["math/bits.divideError", "math/bits.overflowError"], apart := false }
def HierServesSaid : Prop := hierServesRow.holds Tryz.pinned (OpenSpec.ofChange hierServesSpec)

/-- ITS FALSE NEIGHBOUR: 'it returns false'. Refute it at one input. -/
def hierServesWrong : ChangeSpec := { name := "hierServes", fn := fun _ => fun
  | [d1, d2, d3] => { results := [.lit (.bool false)], args := [d1, d2, d3] }
  | _ => none }
def HierServesWrongFalsely : Prop := hierServesRow.holds Tryz.pinned (OpenSpec.ofChange hierServesWrong)

/-- 'dolelaw20.HierNear': WHATEVER THE INPUT: true; the input reads as it did. -/
def hierNearSpec : ChangeSpec := { name := "hierNear", fn := fun _ => fun
  | [d1, d2] => { results := [.lit (.bool true)], args := [d1, d2] }
  | _ => none }
def hierNearRow : OpenClaim := { program := "ytnnjbonejbmgdaagreat", sum := "5de2b01dc28c5b85c90dc67413681bcc489584f8ea3b656d998566a992a7a0df", func := "dole/dolelaw20.HierNear", spec := "hierNear", unfollowed := true, recurses := true, named := ["math/bits.divideError", "math/bits.overflowError"], apart := false }
def HierNearSaid : Prop := hierNearRow.holds Tryz.pinned (OpenSpec.ofChange hierNearSpec)

/-- ITS FALSE NEIGHBOUR: 'it returns false'. Refute it at one input. -/
def hierNearWrong : ChangeSpec := { name := "hierNear", fn := fun _ => fun
  | [d1, d2] => { results := [.lit (.bool false)], args := [d1, d2] }
  | _ => none }
def HierNearWrongFalsely : Prop := hierNearRow.holds Tryz.pinned (OpenSpec.ofChange hierNearWrong)

/-- 'dolelaw20.HierNobody': WHATEVER THE INPUT: true; the input reads as it did. -/
def hierNobodySpec : ChangeSpec := { name := "hierNobody", fn := fun _ => fun
  | [d1, d2] => { results := [.lit (.bool true)], args := [d1, d2] }
  | _ => none }
def hierNobodyRow : OpenClaim := { program := "ytnnjbonejbmgdaagreat", sum := "5de2b01dc28c5b85c90dc67413681bcc489584f8ea3b656d998566a992a7a0df", func := "dole/dolelaw20.HierNobody", spec := "hierNobody", unfollowed := true, recurses := true, named := ["math/bits.divideError", "math/bits.overflowError"], apart := false }
def HierNobodySaid : Prop := hierNobodyRow.holds Tryz.pinned (OpenSpec.ofChange hierNobodySpec)

/-- ITS FALSE NEIGHBOUR: 'it returns false'. Refute it at one input. -/
def hierNobodyWrong : ChangeSpec := { name := "hierNobody", fn := fun _ => fun
  | [d1, d2] => { results := [.lit (.bool false)], args := [d1, d2] }
  | _ => none }
def HierNobodyWrongFalsely : Prop := hierNobodyRow.holds Tryz.pinned (OpenSpec.ofChange hierNobodyWrong)

/- THE SECOND FORM. 'bulk': how many values and letters a reading holds, each counted each time it is reached (what is shared counts as often as it is met; a slice's spare places count too). A statement '..UptoSaid' is the law's where the arguments, and the package variables that the reading takes, are together of bulk at most 1048576: NARROWER than '..Said'. Prove '..Said' where nothing that the law and all that it calls make is longer than what came in: it says more and counts as full. Else prove '..UptoSaid'. A law counts once. -/
mutual
def uptoBulk {H : Type} : DataW H → Nat
  | .lit (.string bytes) => bytes.length + 1
  | .lit _ => 1
  | .nil => 1
  | .ptr d => uptoBulk d + 1
  | .slice elems spare => uptoBulkAll elems + uptoBulkAll spare + 1
  | .agg parts => uptoBulkAll parts + 1
  | .iface _ d => uptoBulk d + 1
  | .map entries => uptoBulkEntries entries + 1
  | .held _ => 1
def uptoBulkAll {H : Type} : List (DataW H) → Nat
  | [] => 0
  | d :: r => uptoBulk d + uptoBulkAll r
def uptoBulkEntries {H : Type} : List (Lit × DataW H) → Nat
  | [] => 0
  | x :: r => uptoBulkEntry x + uptoBulkEntries r
def uptoBulkEntry {H : Type} : Lit × DataW H → Nat
  | (.string bytes, d) => bytes.length + uptoBulk d + 1
  | (_, d) => uptoBulk d + 1
 end
def uptoSmall : (H : Type) → List (DataW H) → Bool := fun _ ds => decide (uptoBulkAll ds ≤ 1048576)
def OpenSpec.upto (s : _root_.Go.ChangeSpec) : _root_.Go.OpenSpec := { _root_.Go.OpenSpec.ofChange s with cond := some uptoSmall }

/-- 'dolelaw20.HierPlays', WHERE WHAT IT READS IS OF BULK AT MOST 1048576: true; the input reads as it did. -/
def hierPlaysUptoRow : OpenClaim := { program := "ytnnjbonejbmgdaagreat", sum := "5de2b01dc28c5b85c90dc67413681bcc489584f8ea3b656d998566a992a7a0df", func := "dole/dolelaw20.HierPlays", spec := "hierPlays", unfollowed := true, recurses := true, named := ["math/bits.divideError", "math/bits.overflowError"], apart := false, narrowed := true }
def HierPlaysUptoSaid : Prop := hierPlaysUptoRow.holds Tryz.pinned (OpenSpec.upto hierPlaysSpec)

/-- 'dolelaw20.HierRuns', WHERE WHAT IT READS IS OF BULK AT MOST 1048576: true; the input reads as it did. -/
def hierRunsUptoRow : OpenClaim := { program := "ytnnjbonejbmgdaagreat", sum := "5de2b01dc28c5b85c90dc67413681bcc489584f8ea3b656d998566a992a7a0df", func := "dole/dolelaw20.HierRuns", spec := "hierRuns", unfollowed := true, recurses := true, named := ["math/bits.divideError", "math/bits.overflowError"], apart := false, narrowed := true }
def HierRunsUptoSaid : Prop := hierRunsUptoRow.holds Tryz.pinned (OpenSpec.upto hierRunsSpec)

/-- 'dolelaw20.HierStands', WHERE WHAT IT READS IS OF BULK AT MOST 1048576: true; the input reads as it did. -/
def hierStandsUptoRow : OpenClaim := { program := "ytnnjbonejbmgdaagreat", sum := "5de2b01dc28c5b85c90dc67413681bcc489584f8ea3b656d998566a992a7a0df", func := "dole/dolelaw20.HierStands", spec := "hierStands", unfollowed := true, recurses := true, named := ["math/bits.divideError", "math/bits.overflowError"], apart := false, narrowed := true }
def HierStandsUptoSaid : Prop := hierStandsUptoRow.holds Tryz.pinned (OpenSpec.upto hierStandsSpec)

/-- 'dolelaw20.HierServes', WHERE WHAT IT READS IS OF BULK AT MOST 1048576: true; the input reads as it did. -/
def hierServesUptoRow : OpenClaim := { program := "ytnnjbonejbmgdaagreat", sum := "5de2b01dc28c5b85c90dc67413681bcc489584f8ea3b656d998566a992a7a0df", func := "dole/dolelaw20.HierServes", spec := "hierServes", unfollowed := true, recurses := true, named := ["math/bits.divideError", "math/bits.overflowError"], apart := false, narrowed := true }
def HierServesUptoSaid : Prop := hierServesUptoRow.holds Tryz.pinned (OpenSpec.upto hierServesSpec)

/-- 'dolelaw20.HierNear', WHERE WHAT IT READS IS OF BULK AT MOST 1048576: true; the input reads as it did. -/
def hierNearUptoRow : OpenClaim := { program := "ytnnjbonejbmgdaagreat", sum := "5de2b01dc28c5b85c90dc67413681bcc489584f8ea3b656d998566a992a7a0df", func := "dole/dolelaw20.HierNear", spec := "hierNear", unfollowed := true, recurses := true, named := ["math/bits.divideError", "math/bits.overflowError"], apart := false, narrowed := true }
def HierNearUptoSaid : Prop := hierNearUptoRow.holds Tryz.pinned (OpenSpec.upto hierNearSpec)

/-- 'dolelaw20.HierNobody', WHERE WHAT IT READS IS OF BULK AT MOST 1048576: true; the input reads as it did. -/
def hierNobodyUptoRow : OpenClaim := { program := "ytnnjbonejbmgdaagreat", sum := "5de2b01dc28c5b85c90dc67413681bcc489584f8ea3b656d998566a992a7a0df", func := "dole/dolelaw20.HierNobody", spec := "hierNobody", unfollowed := true, recurses := true, named := ["math/bits.divideError", "math/bits.overflowError"], apart := false, narrowed := true }
def HierNobodyUptoSaid : Prop := hierNobodyUptoRow.holds Tryz.pinned (OpenSpec.upto hierNobodySpec)

end Rows
end Go.Proofs.YtnnjbonejbmgdaaGreat
