/-
  DERIVED. GIVEN WITH THE SEED: THE CARDS: each row of YtjpbhbfklkipkaaDoorRows.lean that lists a variable, with what it lists TIED to the program's text (the seventh form; the later family's looks); each row that meets fmt, with fmt's text TOLD by the authors' own Lean function (tested against real Go, not proved from fmt's source: count such statements apart). THE CARD IS WHAT COUNTS. Prove the row's statement (the work); the ties are given (YtjpbhbfklkipkaaDoorTie.lean); close each card by the builder's one call (the guide's Derived/Test/ToyasCard.lean, 'card_holds'). Laid BY PROGRAM, IN A SANDBOX (cutbox-door.mjs). By AI agents, Wed Nov 11 2026. No macro, syntax, notation, axiom, sorry.
-/
import Derived.Test.YtjpbhbfklkipkaaDoorRows
import GoSem.ClaimSeven
namespace Go.Proofs.YtjpbhbfklkipkaaDoor
namespace Rows

/-- THE TIED CARD OF 'syntagmlaw14.StatesItems'. -/
def statesItemsCard : Claim7 := { stood := { row := statesItemsRow, standIns := [], harness := (true, "dec3694090825b3b4d03873230b69ea29c2d0dbdbf6bec64ecfd3fe7221f73e9"), looks := false }, kinds := [], alts := [], laidByText := true, laidKinds := [.data, .data, .data], laidTests := true, laidLooks := .later }
def StatesItemsCardSaid : Prop := Claim7.holds Tryd.pinned (.plain (OpenSpec.ofChange statesItemsSpec)) statesItemsCard

/-- THE TIED CARD OF 'syntagmlaw14.StatesBuild'. -/
def statesBuildCard : Claim7 := { stood := { row := statesBuildRow, standIns := [], harness := (true, "dec3694090825b3b4d03873230b69ea29c2d0dbdbf6bec64ecfd3fe7221f73e9"), looks := false }, kinds := [], alts := [], laidByText := true, laidKinds := [.data, .data, .data], laidTests := true, laidLooks := .later }
def StatesBuildCardSaid : Prop := Claim7.holds Tryd.pinned (.plain (OpenSpec.ofChange statesBuildSpec)) statesBuildCard

/-- THE TIED CARD OF 'syntagmlaw14.StatesClosed'. -/
def statesClosedCard : Claim7 := { stood := { row := statesClosedRow, standIns := [], harness := (true, "dec3694090825b3b4d03873230b69ea29c2d0dbdbf6bec64ecfd3fe7221f73e9"), looks := false }, kinds := [], alts := [], laidByText := true, laidKinds := [.data, .data, .data], laidTests := true, laidLooks := .later }
def StatesClosedCardSaid : Prop := Claim7.holds Tryd.pinned (.plain (OpenSpec.ofChange statesClosedSpec)) statesClosedCard

/-- THE TIED CARD OF 'syntagmlaw14.StatesAhead'. -/
def statesAheadCard : Claim7 := { stood := { row := statesAheadRow, standIns := [], harness := (true, "dec3694090825b3b4d03873230b69ea29c2d0dbdbf6bec64ecfd3fe7221f73e9"), looks := false }, kinds := [], alts := [], laidByText := true, laidKinds := [.data, .data, .data], laidTests := true, laidLooks := .later }
def StatesAheadCardSaid : Prop := Claim7.holds Tryd.pinned (.plain (OpenSpec.ofChange statesAheadSpec)) statesAheadCard

/-- THE TIED CARD OF 'syntagmlaw14.StatesSteps'. -/
def statesStepsCard : Claim7 := { stood := { row := statesStepsRow, standIns := [], harness := (true, "dec3694090825b3b4d03873230b69ea29c2d0dbdbf6bec64ecfd3fe7221f73e9"), looks := false }, kinds := [], alts := [], laidByText := true, laidKinds := [.data, .data, .data], laidTests := true, laidLooks := .later }
def StatesStepsCardSaid : Prop := Claim7.holds Tryd.pinned (.plain (OpenSpec.ofChange statesStepsSpec)) statesStepsCard

/-- THE TIED CARD OF 'syntagmlaw14.StatesMore'. -/
def statesMoreCard : Claim7 := { stood := { row := statesMoreRow, standIns := [], harness := (true, "dec3694090825b3b4d03873230b69ea29c2d0dbdbf6bec64ecfd3fe7221f73e9"), looks := false }, kinds := [], alts := [], laidByText := true, laidKinds := [.data, .data, .data], laidTests := true, laidLooks := .later }
def StatesMoreCardSaid : Prop := Claim7.holds Tryd.pinned (.plain (OpenSpec.ofChange statesMoreSpec)) statesMoreCard

/-- THE SECOND FORM's CARD OF 'syntagmlaw14.StatesItems'. -/
def statesItemsUptoCard : Claim7 := { stood := { row := statesItemsUptoRow, standIns := [], harness := (true, "dec3694090825b3b4d03873230b69ea29c2d0dbdbf6bec64ecfd3fe7221f73e9"), looks := false }, kinds := [], alts := [], laidByText := true, laidKinds := [.data, .data, .data], laidTests := true, laidLooks := .later }
def StatesItemsUptoCardSaid : Prop := Claim7.holds Tryd.pinned (.plain (OpenSpec.upto statesItemsSpec)) statesItemsUptoCard

/-- THE SECOND FORM's CARD OF 'syntagmlaw14.StatesBuild'. -/
def statesBuildUptoCard : Claim7 := { stood := { row := statesBuildUptoRow, standIns := [], harness := (true, "dec3694090825b3b4d03873230b69ea29c2d0dbdbf6bec64ecfd3fe7221f73e9"), looks := false }, kinds := [], alts := [], laidByText := true, laidKinds := [.data, .data, .data], laidTests := true, laidLooks := .later }
def StatesBuildUptoCardSaid : Prop := Claim7.holds Tryd.pinned (.plain (OpenSpec.upto statesBuildSpec)) statesBuildUptoCard

/-- THE SECOND FORM's CARD OF 'syntagmlaw14.StatesClosed'. -/
def statesClosedUptoCard : Claim7 := { stood := { row := statesClosedUptoRow, standIns := [], harness := (true, "dec3694090825b3b4d03873230b69ea29c2d0dbdbf6bec64ecfd3fe7221f73e9"), looks := false }, kinds := [], alts := [], laidByText := true, laidKinds := [.data, .data, .data], laidTests := true, laidLooks := .later }
def StatesClosedUptoCardSaid : Prop := Claim7.holds Tryd.pinned (.plain (OpenSpec.upto statesClosedSpec)) statesClosedUptoCard

/-- THE SECOND FORM's CARD OF 'syntagmlaw14.StatesAhead'. -/
def statesAheadUptoCard : Claim7 := { stood := { row := statesAheadUptoRow, standIns := [], harness := (true, "dec3694090825b3b4d03873230b69ea29c2d0dbdbf6bec64ecfd3fe7221f73e9"), looks := false }, kinds := [], alts := [], laidByText := true, laidKinds := [.data, .data, .data], laidTests := true, laidLooks := .later }
def StatesAheadUptoCardSaid : Prop := Claim7.holds Tryd.pinned (.plain (OpenSpec.upto statesAheadSpec)) statesAheadUptoCard

/-- THE SECOND FORM's CARD OF 'syntagmlaw14.StatesSteps'. -/
def statesStepsUptoCard : Claim7 := { stood := { row := statesStepsUptoRow, standIns := [], harness := (true, "dec3694090825b3b4d03873230b69ea29c2d0dbdbf6bec64ecfd3fe7221f73e9"), looks := false }, kinds := [], alts := [], laidByText := true, laidKinds := [.data, .data, .data], laidTests := true, laidLooks := .later }
def StatesStepsUptoCardSaid : Prop := Claim7.holds Tryd.pinned (.plain (OpenSpec.upto statesStepsSpec)) statesStepsUptoCard

/-- THE SECOND FORM's CARD OF 'syntagmlaw14.StatesMore'. -/
def statesMoreUptoCard : Claim7 := { stood := { row := statesMoreUptoRow, standIns := [], harness := (true, "dec3694090825b3b4d03873230b69ea29c2d0dbdbf6bec64ecfd3fe7221f73e9"), looks := false }, kinds := [], alts := [], laidByText := true, laidKinds := [.data, .data, .data], laidTests := true, laidLooks := .later }
def StatesMoreUptoCardSaid : Prop := Claim7.holds Tryd.pinned (.plain (OpenSpec.upto statesMoreSpec)) statesMoreUptoCard
end Rows
end Go.Proofs.YtjpbhbfklkipkaaDoor
