/-
  DERIVED. GIVEN WITH THE SEED: THE CARDS: each row of YticmnfmijdgmbaaGreatDoorRows.lean that lists a variable, with what it lists TIED to the program's text (the seventh form; the later family's looks); each row that meets fmt, with fmt's text TOLD by the authors' own Lean function (tested against real Go, not proved from fmt's source: count such statements apart). THE CARD IS WHAT COUNTS. Prove the row's statement (the work); the ties are given (YticmnfmijdgmbaaGreatDoorTie.lean); close each card by the builder's one call (the guide's Derived/Test/ToyasCard.lean, 'card_holds'). Laid BY PROGRAM, IN A SANDBOX (cutbox-door.mjs). By AI agents, Wed Nov 11 2026. No macro, syntax, notation, axiom, sorry.
-/
import Derived.Test.YticmnfmijdgmbaaGreatDoorRows
import GoSem.ClaimSeven
namespace Go.Proofs.YticmnfmijdgmbaaGreatDoor
namespace Rows

/-- THE TIED CARD OF 'syntagmlaw15.LookAll'. -/
def lookAllCard : Claim7 := { stood := { row := lookAllRow, standIns := [], harness := (true, "3c9bc3035fa6452133aa581b8195921390e0a44d33d92dab40866589e2f3a982"), looks := false }, kinds := [], alts := [], laidByText := true, laidKinds := [.data, .data, .data], laidTests := true, laidLooks := .later }
def LookAllCardSaid : Prop := Claim7.holds Tryz.pinned (.plain (OpenSpec.ofChange lookAllSpec)) lookAllCard

/-- THE TIED CARD OF 'syntagmlaw15.LookClosed'. -/
def lookClosedCard : Claim7 := { stood := { row := lookClosedRow, standIns := [], harness := (true, "3c9bc3035fa6452133aa581b8195921390e0a44d33d92dab40866589e2f3a982"), looks := false }, kinds := [], alts := [], laidByText := true, laidKinds := [.data, .data, .data], laidTests := true, laidLooks := .later }
def LookClosedCardSaid : Prop := Claim7.holds Tryz.pinned (.plain (OpenSpec.ofChange lookClosedSpec)) lookClosedCard

/-- THE TIED CARD OF 'syntagmlaw15.LookFollows'. -/
def lookFollowsCard : Claim7 := { stood := { row := lookFollowsRow, standIns := [], harness := (true, "3c9bc3035fa6452133aa581b8195921390e0a44d33d92dab40866589e2f3a982"), looks := false }, kinds := [], alts := [], laidByText := true, laidKinds := [.data, .data, .data], laidTests := true, laidLooks := .later }
def LookFollowsCardSaid : Prop := Claim7.holds Tryz.pinned (.plain (OpenSpec.ofChange lookFollowsSpec)) lookFollowsCard

/-- THE TIED CARD OF 'syntagmlaw15.LookEmpty'. -/
def lookEmptyCard : Claim7 := { stood := { row := lookEmptyRow, standIns := [], harness := (true, "3c9bc3035fa6452133aa581b8195921390e0a44d33d92dab40866589e2f3a982"), looks := false }, kinds := [], alts := [], laidByText := true, laidKinds := [.data, .data, .data], laidTests := true, laidLooks := .later }
def LookEmptyCardSaid : Prop := Claim7.holds Tryz.pinned (.plain (OpenSpec.ofChange lookEmptySpec)) lookEmptyCard

/-- THE TIED CARD OF 'syntagmlaw15.LookBegins'. -/
def lookBeginsCard : Claim7 := { stood := { row := lookBeginsRow, standIns := [], harness := (true, "3c9bc3035fa6452133aa581b8195921390e0a44d33d92dab40866589e2f3a982"), looks := false }, kinds := [], alts := [], laidByText := true, laidKinds := [.data, .data, .data], laidTests := true, laidLooks := .later }
def LookBeginsCardSaid : Prop := Claim7.holds Tryz.pinned (.plain (OpenSpec.ofChange lookBeginsSpec)) lookBeginsCard

/-- THE TIED CARD OF 'syntagmlaw16.TableAll'. -/
def tableAllCard : Claim7 := { stood := { row := tableAllRow, standIns := [], harness := (true, "3c9bc3035fa6452133aa581b8195921390e0a44d33d92dab40866589e2f3a982"), looks := false }, kinds := [], alts := [], laidByText := true, laidKinds := [.data, .data, .data], laidTests := true, laidLooks := .later }
def TableAllCardSaid : Prop := Claim7.holds Tryz.pinned (.plain (OpenSpec.ofChange tableAllSpec)) tableAllCard

/-- THE TIED CARD OF 'syntagmlaw16.TableBuild'. -/
def tableBuildCard : Claim7 := { stood := { row := tableBuildRow, standIns := [], harness := (true, "3c9bc3035fa6452133aa581b8195921390e0a44d33d92dab40866589e2f3a982"), looks := false }, kinds := [], alts := [], laidByText := true, laidKinds := [.data, .data, .data], laidTests := true, laidLooks := .later }
def TableBuildCardSaid : Prop := Claim7.holds Tryz.pinned (.plain (OpenSpec.ofChange tableBuildSpec)) tableBuildCard

/-- THE TIED CARD OF 'syntagmlaw16.TableAccepts'. -/
def tableAcceptsCard : Claim7 := { stood := { row := tableAcceptsRow, standIns := [], harness := (true, "3c9bc3035fa6452133aa581b8195921390e0a44d33d92dab40866589e2f3a982"), looks := false }, kinds := [], alts := [], laidByText := true, laidKinds := [.data, .data, .data], laidTests := true, laidLooks := .later }
def TableAcceptsCardSaid : Prop := Claim7.holds Tryz.pinned (.plain (OpenSpec.ofChange tableAcceptsSpec)) tableAcceptsCard

/-- THE TIED CARD OF 'syntagmlaw16.TablePrefix'. -/
def tablePrefixCard : Claim7 := { stood := { row := tablePrefixRow, standIns := [], harness := (true, "3c9bc3035fa6452133aa581b8195921390e0a44d33d92dab40866589e2f3a982"), looks := false }, kinds := [], alts := [], laidByText := true, laidKinds := [.data, .data, .data], laidTests := true, laidLooks := .later }
def TablePrefixCardSaid : Prop := Claim7.holds Tryz.pinned (.plain (OpenSpec.ofChange tablePrefixSpec)) tablePrefixCard

/-- THE TIED CARD OF 'syntagmlaw16.TableMay'. -/
def tableMayCard : Claim7 := { stood := { row := tableMayRow, standIns := [], harness := (true, "3c9bc3035fa6452133aa581b8195921390e0a44d33d92dab40866589e2f3a982"), looks := false }, kinds := [], alts := [], laidByText := true, laidKinds := [.data, .data, .data], laidTests := true, laidLooks := .later }
def TableMayCardSaid : Prop := Claim7.holds Tryz.pinned (.plain (OpenSpec.ofChange tableMaySpec)) tableMayCard

/-- THE TIED CARD OF 'syntagmlaw16.TableLonger'. -/
def tableLongerCard : Claim7 := { stood := { row := tableLongerRow, standIns := [], harness := (true, "3c9bc3035fa6452133aa581b8195921390e0a44d33d92dab40866589e2f3a982"), looks := false }, kinds := [], alts := [], laidByText := true, laidKinds := [.data, .data, .data], laidTests := true, laidLooks := .later }
def TableLongerCardSaid : Prop := Claim7.holds Tryz.pinned (.plain (OpenSpec.ofChange tableLongerSpec)) tableLongerCard

/-- THE TIED CARD OF 'syntagmlaw16.TableEmpty'. -/
def tableEmptyCard : Claim7 := { stood := { row := tableEmptyRow, standIns := [], harness := (true, "3c9bc3035fa6452133aa581b8195921390e0a44d33d92dab40866589e2f3a982"), looks := false }, kinds := [], alts := [], laidByText := true, laidKinds := [.data, .data, .data], laidTests := true, laidLooks := .later }
def TableEmptyCardSaid : Prop := Claim7.holds Tryz.pinned (.plain (OpenSpec.ofChange tableEmptySpec)) tableEmptyCard

/-- THE SECOND FORM's CARD OF 'syntagmlaw15.LookAll'. -/
def lookAllUptoCard : Claim7 := { stood := { row := lookAllUptoRow, standIns := [], harness := (true, "3c9bc3035fa6452133aa581b8195921390e0a44d33d92dab40866589e2f3a982"), looks := false }, kinds := [], alts := [], laidByText := true, laidKinds := [.data, .data, .data], laidTests := true, laidLooks := .later }
def LookAllUptoCardSaid : Prop := Claim7.holds Tryz.pinned (.plain (OpenSpec.upto lookAllSpec)) lookAllUptoCard

/-- THE SECOND FORM's CARD OF 'syntagmlaw15.LookClosed'. -/
def lookClosedUptoCard : Claim7 := { stood := { row := lookClosedUptoRow, standIns := [], harness := (true, "3c9bc3035fa6452133aa581b8195921390e0a44d33d92dab40866589e2f3a982"), looks := false }, kinds := [], alts := [], laidByText := true, laidKinds := [.data, .data, .data], laidTests := true, laidLooks := .later }
def LookClosedUptoCardSaid : Prop := Claim7.holds Tryz.pinned (.plain (OpenSpec.upto lookClosedSpec)) lookClosedUptoCard

/-- THE SECOND FORM's CARD OF 'syntagmlaw15.LookFollows'. -/
def lookFollowsUptoCard : Claim7 := { stood := { row := lookFollowsUptoRow, standIns := [], harness := (true, "3c9bc3035fa6452133aa581b8195921390e0a44d33d92dab40866589e2f3a982"), looks := false }, kinds := [], alts := [], laidByText := true, laidKinds := [.data, .data, .data], laidTests := true, laidLooks := .later }
def LookFollowsUptoCardSaid : Prop := Claim7.holds Tryz.pinned (.plain (OpenSpec.upto lookFollowsSpec)) lookFollowsUptoCard

/-- THE SECOND FORM's CARD OF 'syntagmlaw15.LookEmpty'. -/
def lookEmptyUptoCard : Claim7 := { stood := { row := lookEmptyUptoRow, standIns := [], harness := (true, "3c9bc3035fa6452133aa581b8195921390e0a44d33d92dab40866589e2f3a982"), looks := false }, kinds := [], alts := [], laidByText := true, laidKinds := [.data, .data, .data], laidTests := true, laidLooks := .later }
def LookEmptyUptoCardSaid : Prop := Claim7.holds Tryz.pinned (.plain (OpenSpec.upto lookEmptySpec)) lookEmptyUptoCard

/-- THE SECOND FORM's CARD OF 'syntagmlaw15.LookBegins'. -/
def lookBeginsUptoCard : Claim7 := { stood := { row := lookBeginsUptoRow, standIns := [], harness := (true, "3c9bc3035fa6452133aa581b8195921390e0a44d33d92dab40866589e2f3a982"), looks := false }, kinds := [], alts := [], laidByText := true, laidKinds := [.data, .data, .data], laidTests := true, laidLooks := .later }
def LookBeginsUptoCardSaid : Prop := Claim7.holds Tryz.pinned (.plain (OpenSpec.upto lookBeginsSpec)) lookBeginsUptoCard

/-- THE SECOND FORM's CARD OF 'syntagmlaw16.TableAll'. -/
def tableAllUptoCard : Claim7 := { stood := { row := tableAllUptoRow, standIns := [], harness := (true, "3c9bc3035fa6452133aa581b8195921390e0a44d33d92dab40866589e2f3a982"), looks := false }, kinds := [], alts := [], laidByText := true, laidKinds := [.data, .data, .data], laidTests := true, laidLooks := .later }
def TableAllUptoCardSaid : Prop := Claim7.holds Tryz.pinned (.plain (OpenSpec.upto tableAllSpec)) tableAllUptoCard

/-- THE SECOND FORM's CARD OF 'syntagmlaw16.TableBuild'. -/
def tableBuildUptoCard : Claim7 := { stood := { row := tableBuildUptoRow, standIns := [], harness := (true, "3c9bc3035fa6452133aa581b8195921390e0a44d33d92dab40866589e2f3a982"), looks := false }, kinds := [], alts := [], laidByText := true, laidKinds := [.data, .data, .data], laidTests := true, laidLooks := .later }
def TableBuildUptoCardSaid : Prop := Claim7.holds Tryz.pinned (.plain (OpenSpec.upto tableBuildSpec)) tableBuildUptoCard

/-- THE SECOND FORM's CARD OF 'syntagmlaw16.TableAccepts'. -/
def tableAcceptsUptoCard : Claim7 := { stood := { row := tableAcceptsUptoRow, standIns := [], harness := (true, "3c9bc3035fa6452133aa581b8195921390e0a44d33d92dab40866589e2f3a982"), looks := false }, kinds := [], alts := [], laidByText := true, laidKinds := [.data, .data, .data], laidTests := true, laidLooks := .later }
def TableAcceptsUptoCardSaid : Prop := Claim7.holds Tryz.pinned (.plain (OpenSpec.upto tableAcceptsSpec)) tableAcceptsUptoCard

/-- THE SECOND FORM's CARD OF 'syntagmlaw16.TablePrefix'. -/
def tablePrefixUptoCard : Claim7 := { stood := { row := tablePrefixUptoRow, standIns := [], harness := (true, "3c9bc3035fa6452133aa581b8195921390e0a44d33d92dab40866589e2f3a982"), looks := false }, kinds := [], alts := [], laidByText := true, laidKinds := [.data, .data, .data], laidTests := true, laidLooks := .later }
def TablePrefixUptoCardSaid : Prop := Claim7.holds Tryz.pinned (.plain (OpenSpec.upto tablePrefixSpec)) tablePrefixUptoCard

/-- THE SECOND FORM's CARD OF 'syntagmlaw16.TableMay'. -/
def tableMayUptoCard : Claim7 := { stood := { row := tableMayUptoRow, standIns := [], harness := (true, "3c9bc3035fa6452133aa581b8195921390e0a44d33d92dab40866589e2f3a982"), looks := false }, kinds := [], alts := [], laidByText := true, laidKinds := [.data, .data, .data], laidTests := true, laidLooks := .later }
def TableMayUptoCardSaid : Prop := Claim7.holds Tryz.pinned (.plain (OpenSpec.upto tableMaySpec)) tableMayUptoCard

/-- THE SECOND FORM's CARD OF 'syntagmlaw16.TableLonger'. -/
def tableLongerUptoCard : Claim7 := { stood := { row := tableLongerUptoRow, standIns := [], harness := (true, "3c9bc3035fa6452133aa581b8195921390e0a44d33d92dab40866589e2f3a982"), looks := false }, kinds := [], alts := [], laidByText := true, laidKinds := [.data, .data, .data], laidTests := true, laidLooks := .later }
def TableLongerUptoCardSaid : Prop := Claim7.holds Tryz.pinned (.plain (OpenSpec.upto tableLongerSpec)) tableLongerUptoCard

/-- THE SECOND FORM's CARD OF 'syntagmlaw16.TableEmpty'. -/
def tableEmptyUptoCard : Claim7 := { stood := { row := tableEmptyUptoRow, standIns := [], harness := (true, "3c9bc3035fa6452133aa581b8195921390e0a44d33d92dab40866589e2f3a982"), looks := false }, kinds := [], alts := [], laidByText := true, laidKinds := [.data, .data, .data], laidTests := true, laidLooks := .later }
def TableEmptyUptoCardSaid : Prop := Claim7.holds Tryz.pinned (.plain (OpenSpec.upto tableEmptySpec)) tableEmptyUptoCard
end Rows
end Go.Proofs.YticmnfmijdgmbaaGreatDoor
