/-
  No cell of these rows narrows 'for every input' (looked for: loops, veiled, ifaces, maps, wideKeys, modest, calm, conditions, laid).
  DERIVED. THE GIVEN ROWS OF THIS SEAT. 6 by the template 'for every input the law returns true; each argument reads behind the call as it read before'; 0 by the template 'total and deterministic' (their statements: YtnocgdhepmgncaaTotals.lean).
  GIVEN WITH THE SEED: the statements are not yours to turn. If you find one false, say at which input.
  Laid BY PROGRAM, IN A SANDBOX (cutbox-rows.mjs): the forced cells as the released guide's own fill.sh prints them over the translation 95bce3684d4b3ea8… (all of the seat's roots in one cut). By AI agents, Wed Nov 11 2026. No macro, syntax, notation, axiom, sorry.
-/
import Derived.Test.YtnocgdhepmgncaaChecked
import GoSem.Claim
import GoSem.ClaimJoined
import GoSem.ClaimMapViews
import Derived.JoinedTies
import Derived.KernelRfl
namespace Go.Proofs.Ytnocgdhepmgncaa
/- THE CELL 'sum', in the pinned program and in every row, IS THE sha256 OF THE DUMP (.gsa) THAT YtnocgdhepmgncaaProg.lean LOADS. Nothing in Lean hashes anything: it is a label: what it is worth is what the hold of that sum in a sandbox is worth. -/
noncomputable def Try.pinned : Pinned := { name := "ytnocgdhepmgncaa", sum := "95bce3684d4b3ea8eeb2ee06222f1ebf1eae0e16a7c7a7403b06c66415e54494", checked := Try.checked }
namespace Rows
def none {H : Type} : Left H := { results := [], args := [] }

/-- 'dolelaw18.LedgerPlays': WHATEVER THE INPUT: true; the input reads as it did. -/
def ledgerPlaysSpec : ChangeSpec := { name := "ledgerPlays", fn := fun _ => fun
  | [d1, d2] => { results := [.lit (.bool true)], args := [d1, d2] }
  | _ => none }
def ledgerPlaysRow : OpenClaim := { program := "ytnocgdhepmgncaa", sum := "95bce3684d4b3ea8eeb2ee06222f1ebf1eae0e16a7c7a7403b06c66415e54494", func := "dole/dolelaw18.LedgerPlays", spec := "ledgerPlays", unfollowed := true, recurses := true, apart := false }
def LedgerPlaysSaid : Prop := ledgerPlaysRow.holds Try.pinned (OpenSpec.ofChange ledgerPlaysSpec)

/-- ITS FALSE NEIGHBOUR: 'it returns false'. Refute it at one input. -/
def ledgerPlaysWrong : ChangeSpec := { name := "ledgerPlays", fn := fun _ => fun
  | [d1, d2] => { results := [.lit (.bool false)], args := [d1, d2] }
  | _ => none }
def LedgerPlaysWrongFalsely : Prop := ledgerPlaysRow.holds Try.pinned (OpenSpec.ofChange ledgerPlaysWrong)

/-- 'dolelaw18.LedgerSums': WHATEVER THE INPUT: true; the input reads as it did. -/
def ledgerSumsSpec : ChangeSpec := { name := "ledgerSums", fn := fun _ => fun
  | [d1, d2] => { results := [.lit (.bool true)], args := [d1, d2] }
  | _ => none }
def ledgerSumsRow : OpenClaim := { program := "ytnocgdhepmgncaa", sum := "95bce3684d4b3ea8eeb2ee06222f1ebf1eae0e16a7c7a7403b06c66415e54494", func := "dole/dolelaw18.LedgerSums", spec := "ledgerSums", unfollowed := true, recurses := true, apart := false }
def LedgerSumsSaid : Prop := ledgerSumsRow.holds Try.pinned (OpenSpec.ofChange ledgerSumsSpec)

/-- ITS FALSE NEIGHBOUR: 'it returns false'. Refute it at one input. -/
def ledgerSumsWrong : ChangeSpec := { name := "ledgerSums", fn := fun _ => fun
  | [d1, d2] => { results := [.lit (.bool false)], args := [d1, d2] }
  | _ => none }
def LedgerSumsWrongFalsely : Prop := ledgerSumsRow.holds Try.pinned (OpenSpec.ofChange ledgerSumsWrong)

/-- 'dolelaw18.LedgerFails': WHATEVER THE INPUT: true; the input reads as it did. -/
def ledgerFailsSpec : ChangeSpec := { name := "ledgerFails", fn := fun _ => fun
  | [d1, d2] => { results := [.lit (.bool true)], args := [d1, d2] }
  | _ => none }
def ledgerFailsRow : OpenClaim := { program := "ytnocgdhepmgncaa", sum := "95bce3684d4b3ea8eeb2ee06222f1ebf1eae0e16a7c7a7403b06c66415e54494", func := "dole/dolelaw18.LedgerFails", spec := "ledgerFails", unfollowed := true, recurses := true, apart := false }
def LedgerFailsSaid : Prop := ledgerFailsRow.holds Try.pinned (OpenSpec.ofChange ledgerFailsSpec)

/-- ITS FALSE NEIGHBOUR: 'it returns false'. Refute it at one input. -/
def ledgerFailsWrong : ChangeSpec := { name := "ledgerFails", fn := fun _ => fun
  | [d1, d2] => { results := [.lit (.bool false)], args := [d1, d2] }
  | _ => none }
def LedgerFailsWrongFalsely : Prop := ledgerFailsRow.holds Try.pinned (OpenSpec.ofChange ledgerFailsWrong)

/-- 'dolelaw18.LedgerPaths': WHATEVER THE INPUT: true; the input reads as it did. -/
def ledgerPathsSpec : ChangeSpec := { name := "ledgerPaths", fn := fun _ => fun
  | [d1, d2] => { results := [.lit (.bool true)], args := [d1, d2] }
  | _ => none }
def ledgerPathsRow : OpenClaim := { program := "ytnocgdhepmgncaa", sum := "95bce3684d4b3ea8eeb2ee06222f1ebf1eae0e16a7c7a7403b06c66415e54494", func := "dole/dolelaw18.LedgerPaths", spec := "ledgerPaths", recurses := true, apart := false }
def LedgerPathsSaid : Prop := ledgerPathsRow.holds Try.pinned (OpenSpec.ofChange ledgerPathsSpec)

/-- ITS FALSE NEIGHBOUR: 'it returns false'. Refute it at one input. -/
def ledgerPathsWrong : ChangeSpec := { name := "ledgerPaths", fn := fun _ => fun
  | [d1, d2] => { results := [.lit (.bool false)], args := [d1, d2] }
  | _ => none }
def LedgerPathsWrongFalsely : Prop := ledgerPathsRow.holds Try.pinned (OpenSpec.ofChange ledgerPathsWrong)

/-- 'dolelaw18.LedgerForgets': WHATEVER THE INPUT: true; the input reads as it did. -/
def ledgerForgetsSpec : ChangeSpec := { name := "ledgerForgets", fn := fun _ => fun
  | [d1, d2, d3, d4] => { results := [.lit (.bool true)], args := [d1, d2, d3, d4] }
  | _ => none }
def ledgerForgetsRow : OpenClaim := { program := "ytnocgdhepmgncaa", sum := "95bce3684d4b3ea8eeb2ee06222f1ebf1eae0e16a7c7a7403b06c66415e54494", func := "dole/dolelaw18.LedgerForgets", spec := "ledgerForgets", unfollowed := true, recurses := true, apart := false }
def LedgerForgetsSaid : Prop := ledgerForgetsRow.holds Try.pinned (OpenSpec.ofChange ledgerForgetsSpec)

/-- ITS FALSE NEIGHBOUR: 'it returns false'. Refute it at one input. -/
def ledgerForgetsWrong : ChangeSpec := { name := "ledgerForgets", fn := fun _ => fun
  | [d1, d2, d3, d4] => { results := [.lit (.bool false)], args := [d1, d2, d3, d4] }
  | _ => none }
def LedgerForgetsWrongFalsely : Prop := ledgerForgetsRow.holds Try.pinned (OpenSpec.ofChange ledgerForgetsWrong)

/-- 'dolelaw18.LedgerNobody': WHATEVER THE INPUT: true; the input reads as it did. -/
def ledgerNobodySpec : ChangeSpec := { name := "ledgerNobody", fn := fun _ => fun
  | [d1, d2, d3] => { results := [.lit (.bool true)], args := [d1, d2, d3] }
  | _ => none }
def ledgerNobodyRow : OpenClaim := { program := "ytnocgdhepmgncaa", sum := "95bce3684d4b3ea8eeb2ee06222f1ebf1eae0e16a7c7a7403b06c66415e54494", func := "dole/dolelaw18.LedgerNobody", spec := "ledgerNobody", unfollowed := true, recurses := true, apart := false }
def LedgerNobodySaid : Prop := ledgerNobodyRow.holds Try.pinned (OpenSpec.ofChange ledgerNobodySpec)

/-- ITS FALSE NEIGHBOUR: 'it returns false'. Refute it at one input. -/
def ledgerNobodyWrong : ChangeSpec := { name := "ledgerNobody", fn := fun _ => fun
  | [d1, d2, d3] => { results := [.lit (.bool false)], args := [d1, d2, d3] }
  | _ => none }
def LedgerNobodyWrongFalsely : Prop := ledgerNobodyRow.holds Try.pinned (OpenSpec.ofChange ledgerNobodyWrong)

/- THE SECOND FORM. 'bulk': how many values and letters a reading holds, each counted each time it is reached (what is shared counts as often as it is met; a slice's spare places count too). A statement '..UptoSaid' is the law's where the arguments, and the package variables that the reading takes, are together of bulk at most 1048576: NARROWER than '..Said'. Prove '..Said' where nothing that the law and all that it calls make is longer than what came in: it says more and counts as full. Else prove '..UptoSaid'. A law counts once. -/
mutual
def uptoBulk {H : Type} : DataW H → Nat
  | .lit (.string bytes) => bytes.length + 1
  | .lit _ => 1
  | .nil => 1
  | .ptr d => uptoBulk d + 1
  | .slice elems spare => uptoBulkAll elems + uptoBulkAll spare + 1
  | .agg parts => uptoBulkAll parts + 1
  | .iface _ d => uptoBulk d + 1
  | .map entries => uptoBulkEntries entries + 1
  | .held _ => 1
def uptoBulkAll {H : Type} : List (DataW H) → Nat
  | [] => 0
  | d :: r => uptoBulk d + uptoBulkAll r
def uptoBulkEntries {H : Type} : List (Lit × DataW H) → Nat
  | [] => 0
  | x :: r => uptoBulkEntry x + uptoBulkEntries r
def uptoBulkEntry {H : Type} : Lit × DataW H → Nat
  | (.string bytes, d) => bytes.length + uptoBulk d + 1
  | (_, d) => uptoBulk d + 1
 end
def uptoSmall : (H : Type) → List (DataW H) → Bool := fun _ ds => decide (uptoBulkAll ds ≤ 1048576)
def OpenSpec.upto (s : _root_.Go.ChangeSpec) : _root_.Go.OpenSpec := { _root_.Go.OpenSpec.ofChange s with cond := some uptoSmall }

/-- 'dolelaw18.LedgerPlays', WHERE WHAT IT READS IS OF BULK AT MOST 1048576: true; the input reads as it did. -/
def ledgerPlaysUptoRow : OpenClaim := { program := "ytnocgdhepmgncaa", sum := "95bce3684d4b3ea8eeb2ee06222f1ebf1eae0e16a7c7a7403b06c66415e54494", func := "dole/dolelaw18.LedgerPlays", spec := "ledgerPlays", unfollowed := true, recurses := true, apart := false, narrowed := true }
def LedgerPlaysUptoSaid : Prop := ledgerPlaysUptoRow.holds Try.pinned (OpenSpec.upto ledgerPlaysSpec)

/-- 'dolelaw18.LedgerSums', WHERE WHAT IT READS IS OF BULK AT MOST 1048576: true; the input reads as it did. -/
def ledgerSumsUptoRow : OpenClaim := { program := "ytnocgdhepmgncaa", sum := "95bce3684d4b3ea8eeb2ee06222f1ebf1eae0e16a7c7a7403b06c66415e54494", func := "dole/dolelaw18.LedgerSums", spec := "ledgerSums", unfollowed := true, recurses := true, apart := false, narrowed := true }
def LedgerSumsUptoSaid : Prop := ledgerSumsUptoRow.holds Try.pinned (OpenSpec.upto ledgerSumsSpec)

/-- 'dolelaw18.LedgerFails', WHERE WHAT IT READS IS OF BULK AT MOST 1048576: true; the input reads as it did. -/
def ledgerFailsUptoRow : OpenClaim := { program := "ytnocgdhepmgncaa", sum := "95bce3684d4b3ea8eeb2ee06222f1ebf1eae0e16a7c7a7403b06c66415e54494", func := "dole/dolelaw18.LedgerFails", spec := "ledgerFails", unfollowed := true, recurses := true, apart := false, narrowed := true }
def LedgerFailsUptoSaid : Prop := ledgerFailsUptoRow.holds Try.pinned (OpenSpec.upto ledgerFailsSpec)

/-- 'dolelaw18.LedgerPaths', WHERE WHAT IT READS IS OF BULK AT MOST 1048576: true; the input reads as it did. -/
def ledgerPathsUptoRow : OpenClaim := { program := "ytnocgdhepmgncaa", sum := "95bce3684d4b3ea8eeb2ee06222f1ebf1eae0e16a7c7a7403b06c66415e54494", func := "dole/dolelaw18.LedgerPaths", spec := "ledgerPaths", recurses := true, apart := false, narrowed := true }
def LedgerPathsUptoSaid : Prop := ledgerPathsUptoRow.holds Try.pinned (OpenSpec.upto ledgerPathsSpec)

/-- 'dolelaw18.LedgerForgets', WHERE WHAT IT READS IS OF BULK AT MOST 1048576: true; the input reads as it did. -/
def ledgerForgetsUptoRow : OpenClaim := { program := "ytnocgdhepmgncaa", sum := "95bce3684d4b3ea8eeb2ee06222f1ebf1eae0e16a7c7a7403b06c66415e54494", func := "dole/dolelaw18.LedgerForgets", spec := "ledgerForgets", unfollowed := true, recurses := true, apart := false, narrowed := true }
def LedgerForgetsUptoSaid : Prop := ledgerForgetsUptoRow.holds Try.pinned (OpenSpec.upto ledgerForgetsSpec)

/-- 'dolelaw18.LedgerNobody', WHERE WHAT IT READS IS OF BULK AT MOST 1048576: true; the input reads as it did. -/
def ledgerNobodyUptoRow : OpenClaim := { program := "ytnocgdhepmgncaa", sum := "95bce3684d4b3ea8eeb2ee06222f1ebf1eae0e16a7c7a7403b06c66415e54494", func := "dole/dolelaw18.LedgerNobody", spec := "ledgerNobody", unfollowed := true, recurses := true, apart := false, narrowed := true }
def LedgerNobodyUptoSaid : Prop := ledgerNobodyUptoRow.holds Try.pinned (OpenSpec.upto ledgerNobodySpec)

end Rows
end Go.Proofs.Ytnocgdhepmgncaa
