/-
  DERIVED. GIVEN WITH THE SEED: THE CARDS: each row of YtfdlcmjjnoapfaaGreatDoorRows.lean that lists a variable, with what it lists TIED to the program's text (the seventh form; the later family's looks); each row that meets fmt, with fmt's text TOLD by the authors' own Lean function (tested against real Go, not proved from fmt's source: count such statements apart). THE CARD IS WHAT COUNTS. Prove the row's statement (the work); the ties are given (YtfdlcmjjnoapfaaGreatDoorTie.lean); close each card by the builder's one call (the guide's Derived/Test/ToyasCard.lean, 'card_holds'). Laid BY PROGRAM, IN A SANDBOX (cutbox-door.mjs). By AI agents, Wed Nov 11 2026. No macro, syntax, notation, axiom, sorry.
-/
import Derived.Test.YtfdlcmjjnoapfaaGreatDoorRows
import GoSem.ClaimSeven
namespace Go.Proofs.YtfdlcmjjnoapfaaGreatDoor
namespace Rows

/-- THE TIED CARD OF 'cooperagelaw10.CallAnswers'. -/
def callAnswersCard : Claim7 := { stood := { row := callAnswersRow, standIns := [], harness := (true, "fa3037438f3ea818fc5ed42e3199f1708916a6602634591520980cdbae17b893"), looks := false }, kinds := [], alts := [], laidByText := true, laidKinds := [.data, .data, .data, .data, .pinned], laidTests := true, laidLooks := .later }
def CallAnswersCardSaid : Prop := Claim7.holds Tryz.pinned (.plain (OpenSpec.ofChange callAnswersSpec)) callAnswersCard

/-- THE TIED CARD OF 'cooperagelaw10.CallSorts'. -/
def callSortsCard : Claim7 := { stood := { row := callSortsRow, standIns := [], harness := (true, "fa3037438f3ea818fc5ed42e3199f1708916a6602634591520980cdbae17b893"), looks := false }, kinds := [], alts := [], laidByText := true, laidKinds := [.data, .data, .data, .data, .pinned], laidTests := true, laidLooks := .later }
def CallSortsCardSaid : Prop := Claim7.holds Tryz.pinned (.plain (OpenSpec.ofChange callSortsSpec)) callSortsCard

/-- THE TIED CARD OF 'cooperagelaw10.CallFilters'. -/
def callFiltersCard : Claim7 := { stood := { row := callFiltersRow, standIns := [], harness := (true, "fa3037438f3ea818fc5ed42e3199f1708916a6602634591520980cdbae17b893"), looks := false }, kinds := [], alts := [], laidByText := true, laidKinds := [.data, .data, .data, .data, .pinned], laidTests := true, laidLooks := .later }
def CallFiltersCardSaid : Prop := Claim7.holds Tryz.pinned (.plain (OpenSpec.ofChange callFiltersSpec)) callFiltersCard

/-- THE TIED CARD OF 'cooperagelaw10.CallPieces'. -/
def callPiecesCard : Claim7 := { stood := { row := callPiecesRow, standIns := [], harness := (true, "fa3037438f3ea818fc5ed42e3199f1708916a6602634591520980cdbae17b893"), looks := false }, kinds := [], alts := [], laidByText := true, laidKinds := [.data, .data, .data, .data, .pinned], laidTests := true, laidLooks := .later }
def CallPiecesCardSaid : Prop := Claim7.holds Tryz.pinned (.plain (OpenSpec.ofChange callPiecesSpec)) callPiecesCard

/-- THE TIED CARD OF 'cooperagelaw10.CallCounts'. -/
def callCountsCard : Claim7 := { stood := { row := callCountsRow, standIns := [], harness := (true, "fa3037438f3ea818fc5ed42e3199f1708916a6602634591520980cdbae17b893"), looks := false }, kinds := [], alts := [], laidByText := true, laidKinds := [.data, .data, .data, .data, .pinned], laidTests := true, laidLooks := .later }
def CallCountsCardSaid : Prop := Claim7.holds Tryz.pinned (.plain (OpenSpec.ofChange callCountsSpec)) callCountsCard

/-- THE TIED CARD OF 'cooperagelaw10.CallJoins'. -/
def callJoinsCard : Claim7 := { stood := { row := callJoinsRow, standIns := [], harness := (true, "fa3037438f3ea818fc5ed42e3199f1708916a6602634591520980cdbae17b893"), looks := false }, kinds := [], alts := [], laidByText := true, laidKinds := [.data, .data, .data, .data, .pinned], laidTests := true, laidLooks := .later }
def CallJoinsCardSaid : Prop := Claim7.holds Tryz.pinned (.plain (OpenSpec.ofChange callJoinsSpec)) callJoinsCard

/-- THE TIED CARD OF 'cooperagelaw10.CallSubst'. -/
def callSubstCard : Claim7 := { stood := { row := callSubstRow, standIns := [], harness := (true, "fa3037438f3ea818fc5ed42e3199f1708916a6602634591520980cdbae17b893"), looks := false }, kinds := [], alts := [], laidByText := true, laidKinds := [.data, .data, .data, .data, .pinned], laidTests := true, laidLooks := .later }
def CallSubstCardSaid : Prop := Claim7.holds Tryz.pinned (.plain (OpenSpec.ofChange callSubstSpec)) callSubstCard

/-- THE TIED CARD OF 'cooperagelaw10.CallErrs'. -/
def callErrsCard : Claim7 := { stood := { row := callErrsRow, standIns := [], harness := (true, "fa3037438f3ea818fc5ed42e3199f1708916a6602634591520980cdbae17b893"), looks := false }, kinds := [], alts := [], laidByText := true, laidKinds := [.data, .data, .data, .data, .pinned], laidTests := true, laidLooks := .later }
def CallErrsCardSaid : Prop := Claim7.holds Tryz.pinned (.plain (OpenSpec.ofChange callErrsSpec)) callErrsCard

/-- THE TIED CARD OF 'cooperagelaw10.CallTwice'. -/
def callTwiceCard : Claim7 := { stood := { row := callTwiceRow, standIns := [], harness := (true, "fa3037438f3ea818fc5ed42e3199f1708916a6602634591520980cdbae17b893"), looks := false }, kinds := [], alts := [], laidByText := true, laidKinds := [.data, .data, .data, .data, .pinned], laidTests := true, laidLooks := .later }
def CallTwiceCardSaid : Prop := Claim7.holds Tryz.pinned (.plain (OpenSpec.ofChange callTwiceSpec)) callTwiceCard

/-- THE SECOND FORM's CARD OF 'cooperagelaw10.CallAnswers'. -/
def callAnswersUptoCard : Claim7 := { stood := { row := callAnswersUptoRow, standIns := [], harness := (true, "fa3037438f3ea818fc5ed42e3199f1708916a6602634591520980cdbae17b893"), looks := false }, kinds := [], alts := [], laidByText := true, laidKinds := [.data, .data, .data, .data, .pinned], laidTests := true, laidLooks := .later }
def CallAnswersUptoCardSaid : Prop := Claim7.holds Tryz.pinned (.plain (OpenSpec.upto callAnswersSpec)) callAnswersUptoCard

/-- THE SECOND FORM's CARD OF 'cooperagelaw10.CallSorts'. -/
def callSortsUptoCard : Claim7 := { stood := { row := callSortsUptoRow, standIns := [], harness := (true, "fa3037438f3ea818fc5ed42e3199f1708916a6602634591520980cdbae17b893"), looks := false }, kinds := [], alts := [], laidByText := true, laidKinds := [.data, .data, .data, .data, .pinned], laidTests := true, laidLooks := .later }
def CallSortsUptoCardSaid : Prop := Claim7.holds Tryz.pinned (.plain (OpenSpec.upto callSortsSpec)) callSortsUptoCard

/-- THE SECOND FORM's CARD OF 'cooperagelaw10.CallFilters'. -/
def callFiltersUptoCard : Claim7 := { stood := { row := callFiltersUptoRow, standIns := [], harness := (true, "fa3037438f3ea818fc5ed42e3199f1708916a6602634591520980cdbae17b893"), looks := false }, kinds := [], alts := [], laidByText := true, laidKinds := [.data, .data, .data, .data, .pinned], laidTests := true, laidLooks := .later }
def CallFiltersUptoCardSaid : Prop := Claim7.holds Tryz.pinned (.plain (OpenSpec.upto callFiltersSpec)) callFiltersUptoCard

/-- THE SECOND FORM's CARD OF 'cooperagelaw10.CallPieces'. -/
def callPiecesUptoCard : Claim7 := { stood := { row := callPiecesUptoRow, standIns := [], harness := (true, "fa3037438f3ea818fc5ed42e3199f1708916a6602634591520980cdbae17b893"), looks := false }, kinds := [], alts := [], laidByText := true, laidKinds := [.data, .data, .data, .data, .pinned], laidTests := true, laidLooks := .later }
def CallPiecesUptoCardSaid : Prop := Claim7.holds Tryz.pinned (.plain (OpenSpec.upto callPiecesSpec)) callPiecesUptoCard

/-- THE SECOND FORM's CARD OF 'cooperagelaw10.CallCounts'. -/
def callCountsUptoCard : Claim7 := { stood := { row := callCountsUptoRow, standIns := [], harness := (true, "fa3037438f3ea818fc5ed42e3199f1708916a6602634591520980cdbae17b893"), looks := false }, kinds := [], alts := [], laidByText := true, laidKinds := [.data, .data, .data, .data, .pinned], laidTests := true, laidLooks := .later }
def CallCountsUptoCardSaid : Prop := Claim7.holds Tryz.pinned (.plain (OpenSpec.upto callCountsSpec)) callCountsUptoCard

/-- THE SECOND FORM's CARD OF 'cooperagelaw10.CallJoins'. -/
def callJoinsUptoCard : Claim7 := { stood := { row := callJoinsUptoRow, standIns := [], harness := (true, "fa3037438f3ea818fc5ed42e3199f1708916a6602634591520980cdbae17b893"), looks := false }, kinds := [], alts := [], laidByText := true, laidKinds := [.data, .data, .data, .data, .pinned], laidTests := true, laidLooks := .later }
def CallJoinsUptoCardSaid : Prop := Claim7.holds Tryz.pinned (.plain (OpenSpec.upto callJoinsSpec)) callJoinsUptoCard

/-- THE SECOND FORM's CARD OF 'cooperagelaw10.CallSubst'. -/
def callSubstUptoCard : Claim7 := { stood := { row := callSubstUptoRow, standIns := [], harness := (true, "fa3037438f3ea818fc5ed42e3199f1708916a6602634591520980cdbae17b893"), looks := false }, kinds := [], alts := [], laidByText := true, laidKinds := [.data, .data, .data, .data, .pinned], laidTests := true, laidLooks := .later }
def CallSubstUptoCardSaid : Prop := Claim7.holds Tryz.pinned (.plain (OpenSpec.upto callSubstSpec)) callSubstUptoCard

/-- THE SECOND FORM's CARD OF 'cooperagelaw10.CallErrs'. -/
def callErrsUptoCard : Claim7 := { stood := { row := callErrsUptoRow, standIns := [], harness := (true, "fa3037438f3ea818fc5ed42e3199f1708916a6602634591520980cdbae17b893"), looks := false }, kinds := [], alts := [], laidByText := true, laidKinds := [.data, .data, .data, .data, .pinned], laidTests := true, laidLooks := .later }
def CallErrsUptoCardSaid : Prop := Claim7.holds Tryz.pinned (.plain (OpenSpec.upto callErrsSpec)) callErrsUptoCard

/-- THE SECOND FORM's CARD OF 'cooperagelaw10.CallTwice'. -/
def callTwiceUptoCard : Claim7 := { stood := { row := callTwiceUptoRow, standIns := [], harness := (true, "fa3037438f3ea818fc5ed42e3199f1708916a6602634591520980cdbae17b893"), looks := false }, kinds := [], alts := [], laidByText := true, laidKinds := [.data, .data, .data, .data, .pinned], laidTests := true, laidLooks := .later }
def CallTwiceUptoCardSaid : Prop := Claim7.holds Tryz.pinned (.plain (OpenSpec.upto callTwiceSpec)) callTwiceUptoCard
end Rows
end Go.Proofs.YtfdlcmjjnoapfaaGreatDoor
