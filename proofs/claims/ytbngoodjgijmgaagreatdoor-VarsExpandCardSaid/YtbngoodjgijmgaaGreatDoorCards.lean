/-
  DERIVED. GIVEN WITH THE SEED: THE CARDS: each row of YtbngoodjgijmgaaGreatDoorRows.lean that lists a variable, with what it lists TIED to the program's text (the seventh form; the later family's looks); each row that meets fmt, with fmt's text TOLD by the authors' own Lean function (tested against real Go, not proved from fmt's source: count such statements apart). THE CARD IS WHAT COUNTS. Prove the row's statement (the work); the ties are given (YtbngoodjgijmgaaGreatDoorTie.lean); close each card by the builder's one call (the guide's Derived/Test/ToyasCard.lean, 'card_holds'). Laid BY PROGRAM, IN A SANDBOX (cutbox-door.mjs). By AI agents, Wed Nov 11 2026. No macro, syntax, notation, axiom, sorry.
-/
import Derived.Test.YtbngoodjgijmgaaGreatDoorRows
import GoSem.ClaimSeven
namespace Go.Proofs.YtbngoodjgijmgaaGreatDoor
namespace Rows

/-- THE TIED CARD OF 'cooperagelaw11.VarsExpand'. -/
def varsExpandCard : Claim7 := { stood := { row := varsExpandRow, standIns := [], harness := (true, "7e2672d57b785bd3a55195d8007ee2d7e7fd6097f183149229a321c4fd9a9ee2"), looks := false }, kinds := [], alts := [], laidByText := true, laidKinds := [.data, .data, .data, .data, .pinned], laidTests := true, laidLooks := .later }
def VarsExpandCardSaid : Prop := Claim7.holds Tryz.pinned (.plain (OpenSpec.ofChange varsExpandSpec)) varsExpandCard

/-- THE TIED CARD OF 'cooperagelaw11.VarsAssign'. -/
def varsAssignCard : Claim7 := { stood := { row := varsAssignRow, standIns := [], harness := (true, "7e2672d57b785bd3a55195d8007ee2d7e7fd6097f183149229a321c4fd9a9ee2"), looks := false }, kinds := [], alts := [], laidByText := true, laidKinds := [.data, .data, .data, .data, .pinned], laidTests := true, laidLooks := .later }
def VarsAssignCardSaid : Prop := Claim7.holds Tryz.pinned (.plain (OpenSpec.ofChange varsAssignSpec)) varsAssignCard

/-- THE TIED CARD OF 'cooperagelaw11.VarsPlain'. -/
def varsPlainCard : Claim7 := { stood := { row := varsPlainRow, standIns := [], harness := (true, "7e2672d57b785bd3a55195d8007ee2d7e7fd6097f183149229a321c4fd9a9ee2"), looks := false }, kinds := [], alts := [], laidByText := true, laidKinds := [.data, .data, .data, .data, .pinned], laidTests := true, laidLooks := .later }
def VarsPlainCardSaid : Prop := Claim7.holds Tryz.pinned (.plain (OpenSpec.ofChange varsPlainSpec)) varsPlainCard

/-- THE TIED CARD OF 'cooperagelaw11.VarsSimple'. -/
def varsSimpleCard : Claim7 := { stood := { row := varsSimpleRow, standIns := [], harness := (true, "7e2672d57b785bd3a55195d8007ee2d7e7fd6097f183149229a321c4fd9a9ee2"), looks := false }, kinds := [], alts := [], laidByText := true, laidKinds := [.data, .data, .data, .data, .pinned], laidTests := true, laidLooks := .later }
def VarsSimpleCardSaid : Prop := Claim7.holds Tryz.pinned (.plain (OpenSpec.ofChange varsSimpleSpec)) varsSimpleCard

/-- THE TIED CARD OF 'cooperagelaw11.VarsWays'. -/
def varsWaysCard : Claim7 := { stood := { row := varsWaysRow, standIns := [], harness := (true, "7e2672d57b785bd3a55195d8007ee2d7e7fd6097f183149229a321c4fd9a9ee2"), looks := false }, kinds := [], alts := [], laidByText := true, laidKinds := [.data, .data, .data, .data, .pinned], laidTests := true, laidLooks := .later }
def VarsWaysCardSaid : Prop := Claim7.holds Tryz.pinned (.plain (OpenSpec.ofChange varsWaysSpec)) varsWaysCard

/-- THE TIED CARD OF 'cooperagelaw11.VarsRing'. -/
def varsRingCard : Claim7 := { stood := { row := varsRingRow, standIns := [], harness := (true, "7e2672d57b785bd3a55195d8007ee2d7e7fd6097f183149229a321c4fd9a9ee2"), looks := false }, kinds := [], alts := [], laidByText := true, laidKinds := [.data, .data, .data, .data, .pinned], laidTests := true, laidLooks := .later }
def VarsRingCardSaid : Prop := Claim7.holds Tryz.pinned (.plain (OpenSpec.ofChange varsRingSpec)) varsRingCard

/-- THE TIED CARD OF 'cooperagelaw11.VarsSets'. -/
def varsSetsCard : Claim7 := { stood := { row := varsSetsRow, standIns := [], harness := (true, "7e2672d57b785bd3a55195d8007ee2d7e7fd6097f183149229a321c4fd9a9ee2"), looks := false }, kinds := [], alts := [], laidByText := true, laidKinds := [.data, .data, .data, .data, .pinned], laidTests := true, laidLooks := .later }
def VarsSetsCardSaid : Prop := Claim7.holds Tryz.pinned (.plain (OpenSpec.ofChange varsSetsSpec)) varsSetsCard

/-- THE TIED CARD OF 'cooperagelaw11.VarsAppend'. -/
def varsAppendCard : Claim7 := { stood := { row := varsAppendRow, standIns := [], harness := (true, "7e2672d57b785bd3a55195d8007ee2d7e7fd6097f183149229a321c4fd9a9ee2"), looks := false }, kinds := [], alts := [], laidByText := true, laidKinds := [.data, .data, .data, .data, .pinned], laidTests := true, laidLooks := .later }
def VarsAppendCardSaid : Prop := Claim7.holds Tryz.pinned (.plain (OpenSpec.ofChange varsAppendSpec)) varsAppendCard

/-- THE SECOND FORM's CARD OF 'cooperagelaw11.VarsExpand'. -/
def varsExpandUptoCard : Claim7 := { stood := { row := varsExpandUptoRow, standIns := [], harness := (true, "7e2672d57b785bd3a55195d8007ee2d7e7fd6097f183149229a321c4fd9a9ee2"), looks := false }, kinds := [], alts := [], laidByText := true, laidKinds := [.data, .data, .data, .data, .pinned], laidTests := true, laidLooks := .later }
def VarsExpandUptoCardSaid : Prop := Claim7.holds Tryz.pinned (.plain (OpenSpec.upto varsExpandSpec)) varsExpandUptoCard

/-- THE SECOND FORM's CARD OF 'cooperagelaw11.VarsAssign'. -/
def varsAssignUptoCard : Claim7 := { stood := { row := varsAssignUptoRow, standIns := [], harness := (true, "7e2672d57b785bd3a55195d8007ee2d7e7fd6097f183149229a321c4fd9a9ee2"), looks := false }, kinds := [], alts := [], laidByText := true, laidKinds := [.data, .data, .data, .data, .pinned], laidTests := true, laidLooks := .later }
def VarsAssignUptoCardSaid : Prop := Claim7.holds Tryz.pinned (.plain (OpenSpec.upto varsAssignSpec)) varsAssignUptoCard

/-- THE SECOND FORM's CARD OF 'cooperagelaw11.VarsPlain'. -/
def varsPlainUptoCard : Claim7 := { stood := { row := varsPlainUptoRow, standIns := [], harness := (true, "7e2672d57b785bd3a55195d8007ee2d7e7fd6097f183149229a321c4fd9a9ee2"), looks := false }, kinds := [], alts := [], laidByText := true, laidKinds := [.data, .data, .data, .data, .pinned], laidTests := true, laidLooks := .later }
def VarsPlainUptoCardSaid : Prop := Claim7.holds Tryz.pinned (.plain (OpenSpec.upto varsPlainSpec)) varsPlainUptoCard

/-- THE SECOND FORM's CARD OF 'cooperagelaw11.VarsSimple'. -/
def varsSimpleUptoCard : Claim7 := { stood := { row := varsSimpleUptoRow, standIns := [], harness := (true, "7e2672d57b785bd3a55195d8007ee2d7e7fd6097f183149229a321c4fd9a9ee2"), looks := false }, kinds := [], alts := [], laidByText := true, laidKinds := [.data, .data, .data, .data, .pinned], laidTests := true, laidLooks := .later }
def VarsSimpleUptoCardSaid : Prop := Claim7.holds Tryz.pinned (.plain (OpenSpec.upto varsSimpleSpec)) varsSimpleUptoCard

/-- THE SECOND FORM's CARD OF 'cooperagelaw11.VarsWays'. -/
def varsWaysUptoCard : Claim7 := { stood := { row := varsWaysUptoRow, standIns := [], harness := (true, "7e2672d57b785bd3a55195d8007ee2d7e7fd6097f183149229a321c4fd9a9ee2"), looks := false }, kinds := [], alts := [], laidByText := true, laidKinds := [.data, .data, .data, .data, .pinned], laidTests := true, laidLooks := .later }
def VarsWaysUptoCardSaid : Prop := Claim7.holds Tryz.pinned (.plain (OpenSpec.upto varsWaysSpec)) varsWaysUptoCard

/-- THE SECOND FORM's CARD OF 'cooperagelaw11.VarsRing'. -/
def varsRingUptoCard : Claim7 := { stood := { row := varsRingUptoRow, standIns := [], harness := (true, "7e2672d57b785bd3a55195d8007ee2d7e7fd6097f183149229a321c4fd9a9ee2"), looks := false }, kinds := [], alts := [], laidByText := true, laidKinds := [.data, .data, .data, .data, .pinned], laidTests := true, laidLooks := .later }
def VarsRingUptoCardSaid : Prop := Claim7.holds Tryz.pinned (.plain (OpenSpec.upto varsRingSpec)) varsRingUptoCard

/-- THE SECOND FORM's CARD OF 'cooperagelaw11.VarsSets'. -/
def varsSetsUptoCard : Claim7 := { stood := { row := varsSetsUptoRow, standIns := [], harness := (true, "7e2672d57b785bd3a55195d8007ee2d7e7fd6097f183149229a321c4fd9a9ee2"), looks := false }, kinds := [], alts := [], laidByText := true, laidKinds := [.data, .data, .data, .data, .pinned], laidTests := true, laidLooks := .later }
def VarsSetsUptoCardSaid : Prop := Claim7.holds Tryz.pinned (.plain (OpenSpec.upto varsSetsSpec)) varsSetsUptoCard

/-- THE SECOND FORM's CARD OF 'cooperagelaw11.VarsAppend'. -/
def varsAppendUptoCard : Claim7 := { stood := { row := varsAppendUptoRow, standIns := [], harness := (true, "7e2672d57b785bd3a55195d8007ee2d7e7fd6097f183149229a321c4fd9a9ee2"), looks := false }, kinds := [], alts := [], laidByText := true, laidKinds := [.data, .data, .data, .data, .pinned], laidTests := true, laidLooks := .later }
def VarsAppendUptoCardSaid : Prop := Claim7.holds Tryz.pinned (.plain (OpenSpec.upto varsAppendSpec)) varsAppendUptoCard
end Rows
end Go.Proofs.YtbngoodjgijmgaaGreatDoor
