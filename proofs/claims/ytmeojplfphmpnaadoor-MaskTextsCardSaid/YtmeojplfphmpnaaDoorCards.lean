/-
  DERIVED. GIVEN WITH THE SEED: THE CARDS: each row of YtmeojplfphmpnaaDoorRows.lean that lists a variable, with what it lists TIED to the program's text (the seventh form; the later family's looks); each row that meets fmt, with fmt's text TOLD by the authors' own Lean function (tested against real Go, not proved from fmt's source: count such statements apart). THE CARD IS WHAT COUNTS. Prove the row's statement (the work); the ties are given (YtmeojplfphmpnaaDoorTie.lean); close each card by the builder's one call (the guide's Derived/Test/ToyasCard.lean, 'card_holds'). Laid BY PROGRAM, IN A SANDBOX (cutbox-door.mjs). By AI agents, Wed Nov 11 2026. No macro, syntax, notation, axiom, sorry.
-/
import Derived.Test.YtmeojplfphmpnaaDoorRows
import GoSem.ClaimSeven
namespace Go.Proofs.YtmeojplfphmpnaaDoor
namespace Rows

/-- THE TIED CARD OF 'dolelaw09.MaskParses'. -/
def maskParsesCard : Claim7 := { stood := { row := maskParsesRow, standIns := [], harness := (true, "06e0e46639017ea437575016e9af3572b1287f69d1cf62e63c7716719982cd03"), looks := false }, kinds := [], alts := [], laidByText := true, laidKinds := [.data, .data, .data], laidTests := true, laidLooks := .later }
def MaskParsesCardSaid : Prop := Claim7.holds Tryd.pinned (.plain (OpenSpec.ofChange maskParsesSpec)) maskParsesCard

/-- THE TIED CARD OF 'dolelaw09.MaskTexts'. -/
def maskTextsCard : Claim7 := { stood := { row := maskTextsRow, standIns := [], harness := (true, "06e0e46639017ea437575016e9af3572b1287f69d1cf62e63c7716719982cd03"), looks := false }, kinds := [], alts := [], laidByText := true, laidKinds := [.data, .data, .data], laidTests := true, laidLooks := .later }
def MaskTextsCardSaid : Prop := Claim7.holds Tryd.pinned (.plain (OpenSpec.ofChange maskTextsSpec)) maskTextsCard

/-- THE TIED CARD OF 'dolelaw09.MaskBack'. -/
def maskBackCard : Claim7 := { stood := { row := maskBackRow, standIns := [], harness := (true, "06e0e46639017ea437575016e9af3572b1287f69d1cf62e63c7716719982cd03"), looks := false }, kinds := [], alts := [], laidByText := true, laidKinds := [.data, .data, .data], laidTests := true, laidLooks := .later }
def MaskBackCardSaid : Prop := Claim7.holds Tryd.pinned (.plain (OpenSpec.ofChange maskBackSpec)) maskBackCard

/-- THE TIED CARD OF 'dolelaw09.MaskShort'. -/
def maskShortCard : Claim7 := { stood := { row := maskShortRow, standIns := [], harness := (true, "06e0e46639017ea437575016e9af3572b1287f69d1cf62e63c7716719982cd03"), looks := false }, kinds := [], alts := [], laidByText := true, laidKinds := [.data, .data, .data], laidTests := true, laidLooks := .later }
def MaskShortCardSaid : Prop := Claim7.holds Tryd.pinned (.plain (OpenSpec.ofChange maskShortSpec)) maskShortCard

/-- THE TIED CARD OF 'dolelaw09.MaskJoins'. -/
def maskJoinsCard : Claim7 := { stood := { row := maskJoinsRow, standIns := [], harness := (true, "06e0e46639017ea437575016e9af3572b1287f69d1cf62e63c7716719982cd03"), looks := false }, kinds := [], alts := [], laidByText := true, laidKinds := [.data, .data, .data], laidTests := true, laidLooks := .later }
def MaskJoinsCardSaid : Prop := Claim7.holds Tryd.pinned (.plain (OpenSpec.ofChange maskJoinsSpec)) maskJoinsCard

/-- THE TIED CARD OF 'dolelaw09.MaskParts'. -/
def maskPartsCard : Claim7 := { stood := { row := maskPartsRow, standIns := [], harness := (true, "06e0e46639017ea437575016e9af3572b1287f69d1cf62e63c7716719982cd03"), looks := false }, kinds := [], alts := [], laidByText := true, laidKinds := [.data, .data, .data], laidTests := true, laidLooks := .later }
def MaskPartsCardSaid : Prop := Claim7.holds Tryd.pinned (.plain (OpenSpec.ofChange maskPartsSpec)) maskPartsCard

/-- THE TIED CARD OF 'dolelaw09.MaskRanges'. -/
def maskRangesCard : Claim7 := { stood := { row := maskRangesRow, standIns := [], harness := (true, "06e0e46639017ea437575016e9af3572b1287f69d1cf62e63c7716719982cd03"), looks := false }, kinds := [], alts := [], laidByText := true, laidKinds := [.data, .data, .data], laidTests := true, laidLooks := .later }
def MaskRangesCardSaid : Prop := Claim7.holds Tryd.pinned (.plain (OpenSpec.ofChange maskRangesSpec)) maskRangesCard

/-- THE SECOND FORM's CARD OF 'dolelaw09.MaskParses'. -/
def maskParsesUptoCard : Claim7 := { stood := { row := maskParsesUptoRow, standIns := [], harness := (true, "06e0e46639017ea437575016e9af3572b1287f69d1cf62e63c7716719982cd03"), looks := false }, kinds := [], alts := [], laidByText := true, laidKinds := [.data, .data, .data], laidTests := true, laidLooks := .later }
def MaskParsesUptoCardSaid : Prop := Claim7.holds Tryd.pinned (.plain (OpenSpec.upto maskParsesSpec)) maskParsesUptoCard

/-- THE SECOND FORM's CARD OF 'dolelaw09.MaskTexts'. -/
def maskTextsUptoCard : Claim7 := { stood := { row := maskTextsUptoRow, standIns := [], harness := (true, "06e0e46639017ea437575016e9af3572b1287f69d1cf62e63c7716719982cd03"), looks := false }, kinds := [], alts := [], laidByText := true, laidKinds := [.data, .data, .data], laidTests := true, laidLooks := .later }
def MaskTextsUptoCardSaid : Prop := Claim7.holds Tryd.pinned (.plain (OpenSpec.upto maskTextsSpec)) maskTextsUptoCard

/-- THE SECOND FORM's CARD OF 'dolelaw09.MaskBack'. -/
def maskBackUptoCard : Claim7 := { stood := { row := maskBackUptoRow, standIns := [], harness := (true, "06e0e46639017ea437575016e9af3572b1287f69d1cf62e63c7716719982cd03"), looks := false }, kinds := [], alts := [], laidByText := true, laidKinds := [.data, .data, .data], laidTests := true, laidLooks := .later }
def MaskBackUptoCardSaid : Prop := Claim7.holds Tryd.pinned (.plain (OpenSpec.upto maskBackSpec)) maskBackUptoCard

/-- THE SECOND FORM's CARD OF 'dolelaw09.MaskShort'. -/
def maskShortUptoCard : Claim7 := { stood := { row := maskShortUptoRow, standIns := [], harness := (true, "06e0e46639017ea437575016e9af3572b1287f69d1cf62e63c7716719982cd03"), looks := false }, kinds := [], alts := [], laidByText := true, laidKinds := [.data, .data, .data], laidTests := true, laidLooks := .later }
def MaskShortUptoCardSaid : Prop := Claim7.holds Tryd.pinned (.plain (OpenSpec.upto maskShortSpec)) maskShortUptoCard

/-- THE SECOND FORM's CARD OF 'dolelaw09.MaskJoins'. -/
def maskJoinsUptoCard : Claim7 := { stood := { row := maskJoinsUptoRow, standIns := [], harness := (true, "06e0e46639017ea437575016e9af3572b1287f69d1cf62e63c7716719982cd03"), looks := false }, kinds := [], alts := [], laidByText := true, laidKinds := [.data, .data, .data], laidTests := true, laidLooks := .later }
def MaskJoinsUptoCardSaid : Prop := Claim7.holds Tryd.pinned (.plain (OpenSpec.upto maskJoinsSpec)) maskJoinsUptoCard

/-- THE SECOND FORM's CARD OF 'dolelaw09.MaskParts'. -/
def maskPartsUptoCard : Claim7 := { stood := { row := maskPartsUptoRow, standIns := [], harness := (true, "06e0e46639017ea437575016e9af3572b1287f69d1cf62e63c7716719982cd03"), looks := false }, kinds := [], alts := [], laidByText := true, laidKinds := [.data, .data, .data], laidTests := true, laidLooks := .later }
def MaskPartsUptoCardSaid : Prop := Claim7.holds Tryd.pinned (.plain (OpenSpec.upto maskPartsSpec)) maskPartsUptoCard

/-- THE SECOND FORM's CARD OF 'dolelaw09.MaskRanges'. -/
def maskRangesUptoCard : Claim7 := { stood := { row := maskRangesUptoRow, standIns := [], harness := (true, "06e0e46639017ea437575016e9af3572b1287f69d1cf62e63c7716719982cd03"), looks := false }, kinds := [], alts := [], laidByText := true, laidKinds := [.data, .data, .data], laidTests := true, laidLooks := .later }
def MaskRangesUptoCardSaid : Prop := Claim7.holds Tryd.pinned (.plain (OpenSpec.upto maskRangesSpec)) maskRangesUptoCard
end Rows
end Go.Proofs.YtmeojplfphmpnaaDoor
