/-
  No cell of these rows narrows 'for every input' (looked for: loops, veiled, ifaces, maps, wideKeys, modest, calm, conditions, laid).
  DERIVED. THE GIVEN ROWS OF THIS SEAT. 6 by the template 'for every input the law returns true; each argument reads behind the call as it read before'; 0 by the template 'total and deterministic' (their statements: YtijocgpbifgifaaTotals.lean).
  GIVEN WITH THE SEED: the statements are not yours to turn. If you find one false, say at which input.
  Laid BY PROGRAM, IN A SANDBOX (cutbox-rows.mjs): the forced cells as the released guide's own fill.sh prints them over the translation c2dfabb88c5df5d5… (all of the seat's roots in one cut). By AI agents, Wed Nov 11 2026. No macro, syntax, notation, axiom, sorry.
-/
import Derived.Test.YtijocgpbifgifaaChecked
import GoSem.Claim
import GoSem.ClaimJoined
import GoSem.ClaimMapViews
import Derived.JoinedTies
import Derived.KernelRfl
namespace Go.Proofs.Ytijocgpbifgifaa
/- THE CELL 'sum', in the pinned program and in every row, IS THE sha256 OF THE DUMP (.gsa) THAT YtijocgpbifgifaaProg.lean LOADS. Nothing in Lean hashes anything: it is a label: what it is worth is what the hold of that sum in a sandbox is worth. -/
noncomputable def Try.pinned : Pinned := { name := "ytijocgpbifgifaa", sum := "c2dfabb88c5df5d5ed7bf3e317aba12fae1816c43c25ea3887832bca73e3ee8b", checked := Try.checked }
namespace Rows
def none {H : Type} : Left H := { results := [], args := [] }

/-- 'dolelaw15.LoadFinds': WHATEVER THE INPUT: true; the input reads as it did. -/
def loadFindsSpec : ChangeSpec := { name := "loadFinds", fn := fun _ => fun
  | [d1, d2, d3] => { results := [.lit (.bool true)], args := [d1, d2, d3] }
  | _ => none }
def loadFindsRow : OpenClaim := { program := "ytijocgpbifgifaa", sum := "c2dfabb88c5df5d5ed7bf3e317aba12fae1816c43c25ea3887832bca73e3ee8b", func := "dole/dolelaw15.LoadFinds", spec := "loadFinds", unfollowed := true, recurses := true, apart := false }
def LoadFindsSaid : Prop := loadFindsRow.holds Try.pinned (OpenSpec.ofChange loadFindsSpec)

/-- ITS FALSE NEIGHBOUR: 'it returns false'. Refute it at one input. -/
def loadFindsWrong : ChangeSpec := { name := "loadFinds", fn := fun _ => fun
  | [d1, d2, d3] => { results := [.lit (.bool false)], args := [d1, d2, d3] }
  | _ => none }
def LoadFindsWrongFalsely : Prop := loadFindsRow.holds Try.pinned (OpenSpec.ofChange loadFindsWrong)

/-- 'dolelaw15.LoadSums': WHATEVER THE INPUT: true; the input reads as it did. -/
def loadSumsSpec : ChangeSpec := { name := "loadSums", fn := fun _ => fun
  | [d1, d2, d3] => { results := [.lit (.bool true)], args := [d1, d2, d3] }
  | _ => none }
def loadSumsRow : OpenClaim := { program := "ytijocgpbifgifaa", sum := "c2dfabb88c5df5d5ed7bf3e317aba12fae1816c43c25ea3887832bca73e3ee8b", func := "dole/dolelaw15.LoadSums", spec := "loadSums", unfollowed := true, recurses := true, apart := false }
def LoadSumsSaid : Prop := loadSumsRow.holds Try.pinned (OpenSpec.ofChange loadSumsSpec)

/-- ITS FALSE NEIGHBOUR: 'it returns false'. Refute it at one input. -/
def loadSumsWrong : ChangeSpec := { name := "loadSums", fn := fun _ => fun
  | [d1, d2, d3] => { results := [.lit (.bool false)], args := [d1, d2, d3] }
  | _ => none }
def LoadSumsWrongFalsely : Prop := loadSumsRow.holds Try.pinned (OpenSpec.ofChange loadSumsWrong)

/-- 'dolelaw15.LoadBest': WHATEVER THE INPUT: true; the input reads as it did. -/
def loadBestSpec : ChangeSpec := { name := "loadBest", fn := fun _ => fun
  | [d1, d2, d3] => { results := [.lit (.bool true)], args := [d1, d2, d3] }
  | _ => none }
def loadBestRow : OpenClaim := { program := "ytijocgpbifgifaa", sum := "c2dfabb88c5df5d5ed7bf3e317aba12fae1816c43c25ea3887832bca73e3ee8b", func := "dole/dolelaw15.LoadBest", spec := "loadBest", unfollowed := true, recurses := true, apart := false }
def LoadBestSaid : Prop := loadBestRow.holds Try.pinned (OpenSpec.ofChange loadBestSpec)

/-- ITS FALSE NEIGHBOUR: 'it returns false'. Refute it at one input. -/
def loadBestWrong : ChangeSpec := { name := "loadBest", fn := fun _ => fun
  | [d1, d2, d3] => { results := [.lit (.bool false)], args := [d1, d2, d3] }
  | _ => none }
def LoadBestWrongFalsely : Prop := loadBestRow.holds Try.pinned (OpenSpec.ofChange loadBestWrong)

/-- 'dolelaw15.LoadIdles': WHATEVER THE INPUT: true; the input reads as it did. -/
def loadIdlesSpec : ChangeSpec := { name := "loadIdles", fn := fun _ => fun
  | [d1, d2] => { results := [.lit (.bool true)], args := [d1, d2] }
  | _ => none }
def loadIdlesRow : OpenClaim := { program := "ytijocgpbifgifaa", sum := "c2dfabb88c5df5d5ed7bf3e317aba12fae1816c43c25ea3887832bca73e3ee8b", func := "dole/dolelaw15.LoadIdles", spec := "loadIdles", unfollowed := true, recurses := true, apart := false }
def LoadIdlesSaid : Prop := loadIdlesRow.holds Try.pinned (OpenSpec.ofChange loadIdlesSpec)

/-- ITS FALSE NEIGHBOUR: 'it returns false'. Refute it at one input. -/
def loadIdlesWrong : ChangeSpec := { name := "loadIdles", fn := fun _ => fun
  | [d1, d2] => { results := [.lit (.bool false)], args := [d1, d2] }
  | _ => none }
def LoadIdlesWrongFalsely : Prop := loadIdlesRow.holds Try.pinned (OpenSpec.ofChange loadIdlesWrong)

/-- 'dolelaw15.LoadMasks': WHATEVER THE INPUT: true; the input reads as it did. -/
def loadMasksSpec : ChangeSpec := { name := "loadMasks", fn := fun _ => fun
  | [d1, d2] => { results := [.lit (.bool true)], args := [d1, d2] }
  | _ => none }
def loadMasksRow : OpenClaim := { program := "ytijocgpbifgifaa", sum := "c2dfabb88c5df5d5ed7bf3e317aba12fae1816c43c25ea3887832bca73e3ee8b", func := "dole/dolelaw15.LoadMasks", spec := "loadMasks", unfollowed := true, recurses := true, apart := false }
def LoadMasksSaid : Prop := loadMasksRow.holds Try.pinned (OpenSpec.ofChange loadMasksSpec)

/-- ITS FALSE NEIGHBOUR: 'it returns false'. Refute it at one input. -/
def loadMasksWrong : ChangeSpec := { name := "loadMasks", fn := fun _ => fun
  | [d1, d2] => { results := [.lit (.bool false)], args := [d1, d2] }
  | _ => none }
def LoadMasksWrongFalsely : Prop := loadMasksRow.holds Try.pinned (OpenSpec.ofChange loadMasksWrong)

/-- 'dolelaw15.LoadGaps': WHATEVER THE INPUT: true; the input reads as it did. -/
def loadGapsSpec : ChangeSpec := { name := "loadGaps", fn := fun _ => fun
  | [d1, d2, d3] => { results := [.lit (.bool true)], args := [d1, d2, d3] }
  | _ => none }
def loadGapsRow : OpenClaim := { program := "ytijocgpbifgifaa", sum := "c2dfabb88c5df5d5ed7bf3e317aba12fae1816c43c25ea3887832bca73e3ee8b", func := "dole/dolelaw15.LoadGaps", spec := "loadGaps", unfollowed := true, recurses := true, apart := false }
def LoadGapsSaid : Prop := loadGapsRow.holds Try.pinned (OpenSpec.ofChange loadGapsSpec)

/-- ITS FALSE NEIGHBOUR: 'it returns false'. Refute it at one input. -/
def loadGapsWrong : ChangeSpec := { name := "loadGaps", fn := fun _ => fun
  | [d1, d2, d3] => { results := [.lit (.bool false)], args := [d1, d2, d3] }
  | _ => none }
def LoadGapsWrongFalsely : Prop := loadGapsRow.holds Try.pinned (OpenSpec.ofChange loadGapsWrong)

/- THE SECOND FORM. 'bulk': how many values and letters a reading holds, each counted each time it is reached (what is shared counts as often as it is met; a slice's spare places count too). A statement '..UptoSaid' is the law's where the arguments, and the package variables that the reading takes, are together of bulk at most 1048576: NARROWER than '..Said'. Prove '..Said' where nothing that the law and all that it calls make is longer than what came in: it says more and counts as full. Else prove '..UptoSaid'. A law counts once. -/
mutual
def uptoBulk {H : Type} : DataW H → Nat
  | .lit (.string bytes) => bytes.length + 1
  | .lit _ => 1
  | .nil => 1
  | .ptr d => uptoBulk d + 1
  | .slice elems spare => uptoBulkAll elems + uptoBulkAll spare + 1
  | .agg parts => uptoBulkAll parts + 1
  | .iface _ d => uptoBulk d + 1
  | .map entries => uptoBulkEntries entries + 1
  | .held _ => 1
def uptoBulkAll {H : Type} : List (DataW H) → Nat
  | [] => 0
  | d :: r => uptoBulk d + uptoBulkAll r
def uptoBulkEntries {H : Type} : List (Lit × DataW H) → Nat
  | [] => 0
  | x :: r => uptoBulkEntry x + uptoBulkEntries r
def uptoBulkEntry {H : Type} : Lit × DataW H → Nat
  | (.string bytes, d) => bytes.length + uptoBulk d + 1
  | (_, d) => uptoBulk d + 1
 end
def uptoSmall : (H : Type) → List (DataW H) → Bool := fun _ ds => decide (uptoBulkAll ds ≤ 1048576)
def OpenSpec.upto (s : _root_.Go.ChangeSpec) : _root_.Go.OpenSpec := { _root_.Go.OpenSpec.ofChange s with cond := some uptoSmall }

/-- 'dolelaw15.LoadFinds', WHERE WHAT IT READS IS OF BULK AT MOST 1048576: true; the input reads as it did. -/
def loadFindsUptoRow : OpenClaim := { program := "ytijocgpbifgifaa", sum := "c2dfabb88c5df5d5ed7bf3e317aba12fae1816c43c25ea3887832bca73e3ee8b", func := "dole/dolelaw15.LoadFinds", spec := "loadFinds", unfollowed := true, recurses := true, apart := false, narrowed := true }
def LoadFindsUptoSaid : Prop := loadFindsUptoRow.holds Try.pinned (OpenSpec.upto loadFindsSpec)

/-- 'dolelaw15.LoadSums', WHERE WHAT IT READS IS OF BULK AT MOST 1048576: true; the input reads as it did. -/
def loadSumsUptoRow : OpenClaim := { program := "ytijocgpbifgifaa", sum := "c2dfabb88c5df5d5ed7bf3e317aba12fae1816c43c25ea3887832bca73e3ee8b", func := "dole/dolelaw15.LoadSums", spec := "loadSums", unfollowed := true, recurses := true, apart := false, narrowed := true }
def LoadSumsUptoSaid : Prop := loadSumsUptoRow.holds Try.pinned (OpenSpec.upto loadSumsSpec)

/-- 'dolelaw15.LoadBest', WHERE WHAT IT READS IS OF BULK AT MOST 1048576: true; the input reads as it did. -/
def loadBestUptoRow : OpenClaim := { program := "ytijocgpbifgifaa", sum := "c2dfabb88c5df5d5ed7bf3e317aba12fae1816c43c25ea3887832bca73e3ee8b", func := "dole/dolelaw15.LoadBest", spec := "loadBest", unfollowed := true, recurses := true, apart := false, narrowed := true }
def LoadBestUptoSaid : Prop := loadBestUptoRow.holds Try.pinned (OpenSpec.upto loadBestSpec)

/-- 'dolelaw15.LoadIdles', WHERE WHAT IT READS IS OF BULK AT MOST 1048576: true; the input reads as it did. -/
def loadIdlesUptoRow : OpenClaim := { program := "ytijocgpbifgifaa", sum := "c2dfabb88c5df5d5ed7bf3e317aba12fae1816c43c25ea3887832bca73e3ee8b", func := "dole/dolelaw15.LoadIdles", spec := "loadIdles", unfollowed := true, recurses := true, apart := false, narrowed := true }
def LoadIdlesUptoSaid : Prop := loadIdlesUptoRow.holds Try.pinned (OpenSpec.upto loadIdlesSpec)

/-- 'dolelaw15.LoadMasks', WHERE WHAT IT READS IS OF BULK AT MOST 1048576: true; the input reads as it did. -/
def loadMasksUptoRow : OpenClaim := { program := "ytijocgpbifgifaa", sum := "c2dfabb88c5df5d5ed7bf3e317aba12fae1816c43c25ea3887832bca73e3ee8b", func := "dole/dolelaw15.LoadMasks", spec := "loadMasks", unfollowed := true, recurses := true, apart := false, narrowed := true }
def LoadMasksUptoSaid : Prop := loadMasksUptoRow.holds Try.pinned (OpenSpec.upto loadMasksSpec)

/-- 'dolelaw15.LoadGaps', WHERE WHAT IT READS IS OF BULK AT MOST 1048576: true; the input reads as it did. -/
def loadGapsUptoRow : OpenClaim := { program := "ytijocgpbifgifaa", sum := "c2dfabb88c5df5d5ed7bf3e317aba12fae1816c43c25ea3887832bca73e3ee8b", func := "dole/dolelaw15.LoadGaps", spec := "loadGaps", unfollowed := true, recurses := true, apart := false, narrowed := true }
def LoadGapsUptoSaid : Prop := loadGapsUptoRow.holds Try.pinned (OpenSpec.upto loadGapsSpec)

end Rows
end Go.Proofs.Ytijocgpbifgifaa
