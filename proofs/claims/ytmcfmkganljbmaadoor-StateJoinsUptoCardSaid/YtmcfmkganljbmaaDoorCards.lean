/-
  DERIVED. GIVEN WITH THE SEED: THE CARDS: each row of YtmcfmkganljbmaaDoorRows.lean that lists a variable, with what it lists TIED to the program's text (the seventh form; the later family's looks); each row that meets fmt, with fmt's text TOLD by the authors' own Lean function (tested against real Go, not proved from fmt's source: count such statements apart). THE CARD IS WHAT COUNTS. Prove the row's statement (the work); the ties are given (YtmcfmkganljbmaaDoorTie.lean); close each card by the builder's one call (the guide's Derived/Test/ToyasCard.lean, 'card_holds'). Laid BY PROGRAM, IN A SANDBOX (cutbox-door.mjs). By AI agents, Wed Nov 11 2026. No macro, syntax, notation, axiom, sorry.
-/
import Derived.Test.YtmcfmkganljbmaaDoorRows
import GoSem.ClaimSeven
namespace Go.Proofs.YtmcfmkganljbmaaDoor
namespace Rows

/-- THE TIED CARD OF 'dolelaw14.StateDead'. -/
def stateDeadCard : Claim7 := { stood := { row := stateDeadRow, standIns := [], harness := (true, "2230bf9b3e1e3cb6c33ff8dff01bbb04ddc6f9c022664a08b904be9b95984523"), looks := false }, kinds := [], alts := [], laidByText := true, laidKinds := [.data], laidTests := true, laidLooks := .later }
def StateDeadCardSaid : Prop := Claim7.holds Tryd.pinned (.plain (OpenSpec.ofChange stateDeadSpec)) stateDeadCard

/-- THE TIED CARD OF 'dolelaw14.StateJoins'. -/
def stateJoinsCard : Claim7 := { stood := { row := stateJoinsRow, standIns := [], harness := (true, "2230bf9b3e1e3cb6c33ff8dff01bbb04ddc6f9c022664a08b904be9b95984523"), looks := false }, kinds := [], alts := [], laidByText := true, laidKinds := [.data], laidTests := true, laidLooks := .later }
def StateJoinsCardSaid : Prop := Claim7.holds Tryd.pinned (.plain (OpenSpec.ofChange stateJoinsSpec)) stateJoinsCard

/-- THE TIED CARD OF 'dolelaw14.StateRuns'. -/
def stateRunsCard : Claim7 := { stood := { row := stateRunsRow, standIns := [], harness := (true, "2230bf9b3e1e3cb6c33ff8dff01bbb04ddc6f9c022664a08b904be9b95984523"), looks := false }, kinds := [], alts := [], laidByText := true, laidKinds := [.data], laidTests := true, laidLooks := .later }
def StateRunsCardSaid : Prop := Claim7.holds Tryd.pinned (.plain (OpenSpec.ofChange stateRunsSpec)) stateRunsCard

/-- THE SECOND FORM's CARD OF 'dolelaw14.StateDead'. -/
def stateDeadUptoCard : Claim7 := { stood := { row := stateDeadUptoRow, standIns := [], harness := (true, "2230bf9b3e1e3cb6c33ff8dff01bbb04ddc6f9c022664a08b904be9b95984523"), looks := false }, kinds := [], alts := [], laidByText := true, laidKinds := [.data], laidTests := true, laidLooks := .later }
def StateDeadUptoCardSaid : Prop := Claim7.holds Tryd.pinned (.plain (OpenSpec.upto stateDeadSpec)) stateDeadUptoCard

/-- THE SECOND FORM's CARD OF 'dolelaw14.StateJoins'. -/
def stateJoinsUptoCard : Claim7 := { stood := { row := stateJoinsUptoRow, standIns := [], harness := (true, "2230bf9b3e1e3cb6c33ff8dff01bbb04ddc6f9c022664a08b904be9b95984523"), looks := false }, kinds := [], alts := [], laidByText := true, laidKinds := [.data], laidTests := true, laidLooks := .later }
def StateJoinsUptoCardSaid : Prop := Claim7.holds Tryd.pinned (.plain (OpenSpec.upto stateJoinsSpec)) stateJoinsUptoCard

/-- THE SECOND FORM's CARD OF 'dolelaw14.StateRuns'. -/
def stateRunsUptoCard : Claim7 := { stood := { row := stateRunsUptoRow, standIns := [], harness := (true, "2230bf9b3e1e3cb6c33ff8dff01bbb04ddc6f9c022664a08b904be9b95984523"), looks := false }, kinds := [], alts := [], laidByText := true, laidKinds := [.data], laidTests := true, laidLooks := .later }
def StateRunsUptoCardSaid : Prop := Claim7.holds Tryd.pinned (.plain (OpenSpec.upto stateRunsSpec)) stateRunsUptoCard
end Rows
end Go.Proofs.YtmcfmkganljbmaaDoor
