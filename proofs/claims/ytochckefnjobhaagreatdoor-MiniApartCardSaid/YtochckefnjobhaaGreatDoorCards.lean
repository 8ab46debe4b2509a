/-
  DERIVED. GIVEN WITH THE SEED: THE CARDS: each row of YtochckefnjobhaaGreatDoorRows.lean that lists a variable, with what it lists TIED to the program's text (the seventh form; the later family's looks); each row that meets fmt, with fmt's text TOLD by the authors' own Lean function (tested against real Go, not proved from fmt's source: count such statements apart). THE CARD IS WHAT COUNTS. Prove the row's statement (the work); the ties are given (YtochckefnjobhaaGreatDoorTie.lean); close each card by the builder's one call (the guide's Derived/Test/ToyasCard.lean, 'card_holds'). Laid BY PROGRAM, IN A SANDBOX (cutbox-door.mjs). By AI agents, Wed Nov 11 2026. No macro, syntax, notation, axiom, sorry.
-/
import Derived.Test.YtochckefnjobhaaGreatDoorRows
import GoSem.ClaimSeven
namespace Go.Proofs.YtochckefnjobhaaGreatDoor
namespace Rows

/-- THE TIED CARD OF 'syntagmlaw06.MiniApart'. -/
def miniApartCard : Claim7 := { stood := { row := miniApartRow, standIns := [], harness := (true, "af24c4c859c2c992267c51e8aabdecc0f06cd3a4aad7f11685febb397c6a6ead"), looks := true }, kinds := [], alts := [], laidByText := true, laidKinds := [.data, .data, .data], laidTests := true, laidLooks := .later }
def MiniApartCardSaid : Prop := Claim7.holds Tryz.pinned (.plain (OpenSpec.ofChange miniApartSpec)) miniApartCard

/-- THE TIED CARD OF 'syntagmlaw06.MiniTexts'. -/
def miniTextsCard : Claim7 := { stood := { row := miniTextsRow, standIns := [], harness := (true, "af24c4c859c2c992267c51e8aabdecc0f06cd3a4aad7f11685febb397c6a6ead"), looks := true }, kinds := [], alts := [], laidByText := true, laidKinds := [.data, .data, .data], laidTests := true, laidLooks := .later }
def MiniTextsCardSaid : Prop := Claim7.holds Tryz.pinned (.plain (OpenSpec.ofChange miniTextsSpec)) miniTextsCard

/-- THE TIED CARD OF 'syntagmlaw07.MunchPicks'. -/
def munchPicksCard : Claim7 := { stood := { row := munchPicksRow, standIns := [], harness := (true, "af24c4c859c2c992267c51e8aabdecc0f06cd3a4aad7f11685febb397c6a6ead"), looks := true }, kinds := [], alts := [], laidByText := true, laidKinds := [.data, .data, .data], laidTests := true, laidLooks := .later }
def MunchPicksCardSaid : Prop := Claim7.holds Tryz.pinned (.plain (OpenSpec.ofChange munchPicksSpec)) munchPicksCard

/-- THE TIED CARD OF 'syntagmlaw07.MunchAll'. -/
def munchAllCard : Claim7 := { stood := { row := munchAllRow, standIns := [], harness := (true, "af24c4c859c2c992267c51e8aabdecc0f06cd3a4aad7f11685febb397c6a6ead"), looks := true }, kinds := [], alts := [], laidByText := true, laidKinds := [.data, .data, .data], laidTests := true, laidLooks := .later }
def MunchAllCardSaid : Prop := Claim7.holds Tryz.pinned (.plain (OpenSpec.ofChange munchAllSpec)) munchAllCard

/-- THE TIED CARD OF 'syntagmlaw07.MunchLongest'. -/
def munchLongestCard : Claim7 := { stood := { row := munchLongestRow, standIns := [], harness := (true, "af24c4c859c2c992267c51e8aabdecc0f06cd3a4aad7f11685febb397c6a6ead"), looks := true }, kinds := [], alts := [], laidByText := true, laidKinds := [.data, .data, .data], laidTests := true, laidLooks := .later }
def MunchLongestCardSaid : Prop := Claim7.holds Tryz.pinned (.plain (OpenSpec.ofChange munchLongestSpec)) munchLongestCard

/-- THE TIED CARD OF 'syntagmlaw07.MunchWins'. -/
def munchWinsCard : Claim7 := { stood := { row := munchWinsRow, standIns := [], harness := (true, "af24c4c859c2c992267c51e8aabdecc0f06cd3a4aad7f11685febb397c6a6ead"), looks := true }, kinds := [], alts := [], laidByText := true, laidKinds := [.data, .data, .data], laidTests := true, laidLooks := .later }
def MunchWinsCardSaid : Prop := Claim7.holds Tryz.pinned (.plain (OpenSpec.ofChange munchWinsSpec)) munchWinsCard

/-- THE TIED CARD OF 'syntagmlaw07.MunchCuts'. -/
def munchCutsCard : Claim7 := { stood := { row := munchCutsRow, standIns := [], harness := (true, "af24c4c859c2c992267c51e8aabdecc0f06cd3a4aad7f11685febb397c6a6ead"), looks := true }, kinds := [], alts := [], laidByText := true, laidKinds := [.data, .data, .data], laidTests := true, laidLooks := .later }
def MunchCutsCardSaid : Prop := Claim7.holds Tryz.pinned (.plain (OpenSpec.ofChange munchCutsSpec)) munchCutsCard

/-- THE TIED CARD OF 'syntagmlaw07.MunchFewer'. -/
def munchFewerCard : Claim7 := { stood := { row := munchFewerRow, standIns := [], harness := (true, "af24c4c859c2c992267c51e8aabdecc0f06cd3a4aad7f11685febb397c6a6ead"), looks := true }, kinds := [], alts := [], laidByText := true, laidKinds := [.data, .data, .data], laidTests := true, laidLooks := .later }
def MunchFewerCardSaid : Prop := Claim7.holds Tryz.pinned (.plain (OpenSpec.ofChange munchFewerSpec)) munchFewerCard

/-- THE SECOND FORM's CARD OF 'syntagmlaw06.MiniApart'. -/
def miniApartUptoCard : Claim7 := { stood := { row := miniApartUptoRow, standIns := [], harness := (true, "af24c4c859c2c992267c51e8aabdecc0f06cd3a4aad7f11685febb397c6a6ead"), looks := true }, kinds := [], alts := [], laidByText := true, laidKinds := [.data, .data, .data], laidTests := true, laidLooks := .later }
def MiniApartUptoCardSaid : Prop := Claim7.holds Tryz.pinned (.plain (OpenSpec.upto miniApartSpec)) miniApartUptoCard

/-- THE SECOND FORM's CARD OF 'syntagmlaw06.MiniTexts'. -/
def miniTextsUptoCard : Claim7 := { stood := { row := miniTextsUptoRow, standIns := [], harness := (true, "af24c4c859c2c992267c51e8aabdecc0f06cd3a4aad7f11685febb397c6a6ead"), looks := true }, kinds := [], alts := [], laidByText := true, laidKinds := [.data, .data, .data], laidTests := true, laidLooks := .later }
def MiniTextsUptoCardSaid : Prop := Claim7.holds Tryz.pinned (.plain (OpenSpec.upto miniTextsSpec)) miniTextsUptoCard

/-- THE SECOND FORM's CARD OF 'syntagmlaw07.MunchPicks'. -/
def munchPicksUptoCard : Claim7 := { stood := { row := munchPicksUptoRow, standIns := [], harness := (true, "af24c4c859c2c992267c51e8aabdecc0f06cd3a4aad7f11685febb397c6a6ead"), looks := true }, kinds := [], alts := [], laidByText := true, laidKinds := [.data, .data, .data], laidTests := true, laidLooks := .later }
def MunchPicksUptoCardSaid : Prop := Claim7.holds Tryz.pinned (.plain (OpenSpec.upto munchPicksSpec)) munchPicksUptoCard

/-- THE SECOND FORM's CARD OF 'syntagmlaw07.MunchAll'. -/
def munchAllUptoCard : Claim7 := { stood := { row := munchAllUptoRow, standIns := [], harness := (true, "af24c4c859c2c992267c51e8aabdecc0f06cd3a4aad7f11685febb397c6a6ead"), looks := true }, kinds := [], alts := [], laidByText := true, laidKinds := [.data, .data, .data], laidTests := true, laidLooks := .later }
def MunchAllUptoCardSaid : Prop := Claim7.holds Tryz.pinned (.plain (OpenSpec.upto munchAllSpec)) munchAllUptoCard

/-- THE SECOND FORM's CARD OF 'syntagmlaw07.MunchLongest'. -/
def munchLongestUptoCard : Claim7 := { stood := { row := munchLongestUptoRow, standIns := [], harness := (true, "af24c4c859c2c992267c51e8aabdecc0f06cd3a4aad7f11685febb397c6a6ead"), looks := true }, kinds := [], alts := [], laidByText := true, laidKinds := [.data, .data, .data], laidTests := true, laidLooks := .later }
def MunchLongestUptoCardSaid : Prop := Claim7.holds Tryz.pinned (.plain (OpenSpec.upto munchLongestSpec)) munchLongestUptoCard

/-- THE SECOND FORM's CARD OF 'syntagmlaw07.MunchWins'. -/
def munchWinsUptoCard : Claim7 := { stood := { row := munchWinsUptoRow, standIns := [], harness := (true, "af24c4c859c2c992267c51e8aabdecc0f06cd3a4aad7f11685febb397c6a6ead"), looks := true }, kinds := [], alts := [], laidByText := true, laidKinds := [.data, .data, .data], laidTests := true, laidLooks := .later }
def MunchWinsUptoCardSaid : Prop := Claim7.holds Tryz.pinned (.plain (OpenSpec.upto munchWinsSpec)) munchWinsUptoCard

/-- THE SECOND FORM's CARD OF 'syntagmlaw07.MunchCuts'. -/
def munchCutsUptoCard : Claim7 := { stood := { row := munchCutsUptoRow, standIns := [], harness := (true, "af24c4c859c2c992267c51e8aabdecc0f06cd3a4aad7f11685febb397c6a6ead"), looks := true }, kinds := [], alts := [], laidByText := true, laidKinds := [.data, .data, .data], laidTests := true, laidLooks := .later }
def MunchCutsUptoCardSaid : Prop := Claim7.holds Tryz.pinned (.plain (OpenSpec.upto munchCutsSpec)) munchCutsUptoCard

/-- THE SECOND FORM's CARD OF 'syntagmlaw07.MunchFewer'. -/
def munchFewerUptoCard : Claim7 := { stood := { row := munchFewerUptoRow, standIns := [], harness := (true, "af24c4c859c2c992267c51e8aabdecc0f06cd3a4aad7f11685febb397c6a6ead"), looks := true }, kinds := [], alts := [], laidByText := true, laidKinds := [.data, .data, .data], laidTests := true, laidLooks := .later }
def MunchFewerUptoCardSaid : Prop := Claim7.holds Tryz.pinned (.plain (OpenSpec.upto munchFewerSpec)) munchFewerUptoCard
end Rows
end Go.Proofs.YtochckefnjobhaaGreatDoor
