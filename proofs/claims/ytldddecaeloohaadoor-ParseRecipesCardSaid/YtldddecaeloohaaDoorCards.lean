/-
  DERIVED. GIVEN WITH THE SEED: THE CARDS: each row of YtldddecaeloohaaDoorRows.lean that lists a variable, with what it lists TIED to the program's text (the seventh form; the later family's looks); each row that meets fmt, with fmt's text TOLD by the authors' own Lean function (tested against real Go, not proved from fmt's source: count such statements apart). THE CARD IS WHAT COUNTS. Prove the row's statement (the work); the ties are given (YtldddecaeloohaaDoorTie.lean); close each card by the builder's one call (the guide's Derived/Test/ToyasCard.lean, 'card_holds'). Laid BY PROGRAM, IN A SANDBOX (cutbox-door.mjs). By AI agents, Wed Nov 11 2026. No macro, syntax, notation, axiom, sorry.
-/
import Derived.Test.YtldddecaeloohaaDoorRows
import GoSem.ClaimSeven
namespace Go.Proofs.YtldddecaeloohaaDoor
namespace Rows

/-- THE TIED CARD OF 'cooperagelaw9.ParseNodes'. -/
def parseNodesCard : Claim7 := { stood := { row := parseNodesRow, standIns := [], harness := (true, "d5ae1cf01435415baeafe384c226c9206b1d4925103e59fe105feaa87d8dd714"), looks := false }, kinds := [], alts := [], laidByText := true, laidKinds := [.data, .pinned], laidTests := true, laidLooks := .later }
def ParseNodesCardSaid : Prop := Claim7.holds Tryd.pinned (.plain (OpenSpec.ofChange parseNodesSpec)) parseNodesCard

/-- THE TIED CARD OF 'cooperagelaw9.ParseLines'. -/
def parseLinesCard : Claim7 := { stood := { row := parseLinesRow, standIns := [], harness := (true, "d5ae1cf01435415baeafe384c226c9206b1d4925103e59fe105feaa87d8dd714"), looks := false }, kinds := [], alts := [], laidByText := true, laidKinds := [.data, .pinned], laidTests := true, laidLooks := .later }
def ParseLinesCardSaid : Prop := Claim7.holds Tryd.pinned (.plain (OpenSpec.ofChange parseLinesSpec)) parseLinesCard

/-- THE TIED CARD OF 'cooperagelaw9.ParseCuts'. -/
def parseCutsCard : Claim7 := { stood := { row := parseCutsRow, standIns := [], harness := (true, "d5ae1cf01435415baeafe384c226c9206b1d4925103e59fe105feaa87d8dd714"), looks := false }, kinds := [], alts := [], laidByText := true, laidKinds := [.data, .pinned], laidTests := true, laidLooks := .later }
def ParseCutsCardSaid : Prop := Claim7.holds Tryd.pinned (.plain (OpenSpec.ofChange parseCutsSpec)) parseCutsCard

/-- THE TIED CARD OF 'cooperagelaw9.ParseWhole'. -/
def parseWholeCard : Claim7 := { stood := { row := parseWholeRow, standIns := [], harness := (true, "d5ae1cf01435415baeafe384c226c9206b1d4925103e59fe105feaa87d8dd714"), looks := false }, kinds := [], alts := [], laidByText := true, laidKinds := [.data, .pinned], laidTests := true, laidLooks := .later }
def ParseWholeCardSaid : Prop := Claim7.holds Tryd.pinned (.plain (OpenSpec.ofChange parseWholeSpec)) parseWholeCard

/-- THE TIED CARD OF 'cooperagelaw9.ParseRows'. -/
def parseRowsCard : Claim7 := { stood := { row := parseRowsRow, standIns := [], harness := (true, "d5ae1cf01435415baeafe384c226c9206b1d4925103e59fe105feaa87d8dd714"), looks := false }, kinds := [], alts := [], laidByText := true, laidKinds := [.data, .pinned], laidTests := true, laidLooks := .later }
def ParseRowsCardSaid : Prop := Claim7.holds Tryd.pinned (.plain (OpenSpec.ofChange parseRowsSpec)) parseRowsCard

/-- THE TIED CARD OF 'cooperagelaw9.ParseConds'. -/
def parseCondsCard : Claim7 := { stood := { row := parseCondsRow, standIns := [], harness := (true, "d5ae1cf01435415baeafe384c226c9206b1d4925103e59fe105feaa87d8dd714"), looks := false }, kinds := [], alts := [], laidByText := true, laidKinds := [.data, .pinned], laidTests := true, laidLooks := .later }
def ParseCondsCardSaid : Prop := Claim7.holds Tryd.pinned (.plain (OpenSpec.ofChange parseCondsSpec)) parseCondsCard

/-- THE TIED CARD OF 'cooperagelaw9.ParseRecipes'. -/
def parseRecipesCard : Claim7 := { stood := { row := parseRecipesRow, standIns := [], harness := (true, "d5ae1cf01435415baeafe384c226c9206b1d4925103e59fe105feaa87d8dd714"), looks := false }, kinds := [], alts := [], laidByText := true, laidKinds := [.data, .pinned], laidTests := true, laidLooks := .later }
def ParseRecipesCardSaid : Prop := Claim7.holds Tryd.pinned (.plain (OpenSpec.ofChange parseRecipesSpec)) parseRecipesCard

/-- THE SECOND FORM's CARD OF 'cooperagelaw9.ParseNodes'. -/
def parseNodesUptoCard : Claim7 := { stood := { row := parseNodesUptoRow, standIns := [], harness := (true, "d5ae1cf01435415baeafe384c226c9206b1d4925103e59fe105feaa87d8dd714"), looks := false }, kinds := [], alts := [], laidByText := true, laidKinds := [.data, .pinned], laidTests := true, laidLooks := .later }
def ParseNodesUptoCardSaid : Prop := Claim7.holds Tryd.pinned (.plain (OpenSpec.upto parseNodesSpec)) parseNodesUptoCard

/-- THE SECOND FORM's CARD OF 'cooperagelaw9.ParseLines'. -/
def parseLinesUptoCard : Claim7 := { stood := { row := parseLinesUptoRow, standIns := [], harness := (true, "d5ae1cf01435415baeafe384c226c9206b1d4925103e59fe105feaa87d8dd714"), looks := false }, kinds := [], alts := [], laidByText := true, laidKinds := [.data, .pinned], laidTests := true, laidLooks := .later }
def ParseLinesUptoCardSaid : Prop := Claim7.holds Tryd.pinned (.plain (OpenSpec.upto parseLinesSpec)) parseLinesUptoCard

/-- THE SECOND FORM's CARD OF 'cooperagelaw9.ParseCuts'. -/
def parseCutsUptoCard : Claim7 := { stood := { row := parseCutsUptoRow, standIns := [], harness := (true, "d5ae1cf01435415baeafe384c226c9206b1d4925103e59fe105feaa87d8dd714"), looks := false }, kinds := [], alts := [], laidByText := true, laidKinds := [.data, .pinned], laidTests := true, laidLooks := .later }
def ParseCutsUptoCardSaid : Prop := Claim7.holds Tryd.pinned (.plain (OpenSpec.upto parseCutsSpec)) parseCutsUptoCard

/-- THE SECOND FORM's CARD OF 'cooperagelaw9.ParseWhole'. -/
def parseWholeUptoCard : Claim7 := { stood := { row := parseWholeUptoRow, standIns := [], harness := (true, "d5ae1cf01435415baeafe384c226c9206b1d4925103e59fe105feaa87d8dd714"), looks := false }, kinds := [], alts := [], laidByText := true, laidKinds := [.data, .pinned], laidTests := true, laidLooks := .later }
def ParseWholeUptoCardSaid : Prop := Claim7.holds Tryd.pinned (.plain (OpenSpec.upto parseWholeSpec)) parseWholeUptoCard

/-- THE SECOND FORM's CARD OF 'cooperagelaw9.ParseRows'. -/
def parseRowsUptoCard : Claim7 := { stood := { row := parseRowsUptoRow, standIns := [], harness := (true, "d5ae1cf01435415baeafe384c226c9206b1d4925103e59fe105feaa87d8dd714"), looks := false }, kinds := [], alts := [], laidByText := true, laidKinds := [.data, .pinned], laidTests := true, laidLooks := .later }
def ParseRowsUptoCardSaid : Prop := Claim7.holds Tryd.pinned (.plain (OpenSpec.upto parseRowsSpec)) parseRowsUptoCard

/-- THE SECOND FORM's CARD OF 'cooperagelaw9.ParseConds'. -/
def parseCondsUptoCard : Claim7 := { stood := { row := parseCondsUptoRow, standIns := [], harness := (true, "d5ae1cf01435415baeafe384c226c9206b1d4925103e59fe105feaa87d8dd714"), looks := false }, kinds := [], alts := [], laidByText := true, laidKinds := [.data, .pinned], laidTests := true, laidLooks := .later }
def ParseCondsUptoCardSaid : Prop := Claim7.holds Tryd.pinned (.plain (OpenSpec.upto parseCondsSpec)) parseCondsUptoCard

/-- THE SECOND FORM's CARD OF 'cooperagelaw9.ParseRecipes'. -/
def parseRecipesUptoCard : Claim7 := { stood := { row := parseRecipesUptoRow, standIns := [], harness := (true, "d5ae1cf01435415baeafe384c226c9206b1d4925103e59fe105feaa87d8dd714"), looks := false }, kinds := [], alts := [], laidByText := true, laidKinds := [.data, .pinned], laidTests := true, laidLooks := .later }
def ParseRecipesUptoCardSaid : Prop := Claim7.holds Tryd.pinned (.plain (OpenSpec.upto parseRecipesSpec)) parseRecipesUptoCard
end Rows
end Go.Proofs.YtldddecaeloohaaDoor
