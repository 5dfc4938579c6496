/-
  DERIVED. GIVEN WITH THE SEED: THE CARDS: each row of YtmfjolmfbdbegaaGreatDoorRows.lean that lists a variable, with what it lists TIED to the program's text (the seventh form; the later family's looks); each row that meets fmt, with fmt's text TOLD by the authors' own Lean function (tested against real Go, not proved from fmt's source: count such statements apart). THE CARD IS WHAT COUNTS. Prove the row's statement (the work); the ties are given (YtmfjolmfbdbegaaGreatDoorTie.lean); close each card by the builder's one call (the guide's Derived/Test/ToyasCard.lean, 'card_holds'). Laid BY PROGRAM, IN A SANDBOX (cutbox-door.mjs). By AI agents, Wed Nov 11 2026. No macro, syntax, notation, axiom, sorry.
-/
import Derived.Test.YtmfjolmfbdbegaaGreatDoorRows
import GoSem.ClaimSeven
namespace Go.Proofs.YtmfjolmfbdbegaaGreatDoor
namespace Rows

/-- THE TIED CARD OF 'cooperagelaw12.EvalInline'. -/
def evalInlineCard : Claim7 := { stood := { row := evalInlineRow, standIns := [], harness := (true, "87ef8543188392495c0bc8b27f20cbb20633830f8939b09c41dc37400fe01692"), looks := true }, kinds := [], alts := [], laidByText := true, laidKinds := [.data, .data, .data, .data, .pinned], laidTests := true, laidLooks := .later }
def EvalInlineCardSaid : Prop := Claim7.holds Tryz.pinned (.plain (OpenSpec.ofChange evalInlineSpec)) evalInlineCard

/-- THE TIED CARD OF 'cooperagelaw12.EvalWays'. -/
def evalWaysCard : Claim7 := { stood := { row := evalWaysRow, standIns := [], harness := (true, "87ef8543188392495c0bc8b27f20cbb20633830f8939b09c41dc37400fe01692"), looks := true }, kinds := [], alts := [], laidByText := true, laidKinds := [.data, .data, .data, .data, .pinned], laidTests := true, laidLooks := .later }
def EvalWaysCardSaid : Prop := Claim7.holds Tryz.pinned (.plain (OpenSpec.ofChange evalWaysSpec)) evalWaysCard

/-- THE TIED CARD OF 'cooperagelaw12.EvalRules'. -/
def evalRulesCard : Claim7 := { stood := { row := evalRulesRow, standIns := [], harness := (true, "87ef8543188392495c0bc8b27f20cbb20633830f8939b09c41dc37400fe01692"), looks := true }, kinds := [], alts := [], laidByText := true, laidKinds := [.data, .data, .data, .data, .pinned], laidTests := true, laidLooks := .later }
def EvalRulesCardSaid : Prop := Claim7.holds Tryz.pinned (.plain (OpenSpec.ofChange evalRulesSpec)) evalRulesCard

/-- THE TIED CARD OF 'cooperagelaw12.EvalOnly'. -/
def evalOnlyCard : Claim7 := { stood := { row := evalOnlyRow, standIns := [], harness := (true, "87ef8543188392495c0bc8b27f20cbb20633830f8939b09c41dc37400fe01692"), looks := true }, kinds := [], alts := [], laidByText := true, laidKinds := [.data, .data, .data, .data, .pinned], laidTests := true, laidLooks := .later }
def EvalOnlyCardSaid : Prop := Claim7.holds Tryz.pinned (.plain (OpenSpec.ofChange evalOnlySpec)) evalOnlyCard

/-- THE TIED CARD OF 'cooperagelaw12.EvalPhony'. -/
def evalPhonyCard : Claim7 := { stood := { row := evalPhonyRow, standIns := [], harness := (true, "87ef8543188392495c0bc8b27f20cbb20633830f8939b09c41dc37400fe01692"), looks := true }, kinds := [], alts := [], laidByText := true, laidKinds := [.data, .data, .data, .data, .pinned], laidTests := true, laidLooks := .later }
def EvalPhonyCardSaid : Prop := Claim7.holds Tryz.pinned (.plain (OpenSpec.ofChange evalPhonySpec)) evalPhonyCard

/-- THE SECOND FORM's CARD OF 'cooperagelaw12.EvalInline'. -/
def evalInlineUptoCard : Claim7 := { stood := { row := evalInlineUptoRow, standIns := [], harness := (true, "87ef8543188392495c0bc8b27f20cbb20633830f8939b09c41dc37400fe01692"), looks := true }, kinds := [], alts := [], laidByText := true, laidKinds := [.data, .data, .data, .data, .pinned], laidTests := true, laidLooks := .later }
def EvalInlineUptoCardSaid : Prop := Claim7.holds Tryz.pinned (.plain (OpenSpec.upto evalInlineSpec)) evalInlineUptoCard

/-- THE SECOND FORM's CARD OF 'cooperagelaw12.EvalWays'. -/
def evalWaysUptoCard : Claim7 := { stood := { row := evalWaysUptoRow, standIns := [], harness := (true, "87ef8543188392495c0bc8b27f20cbb20633830f8939b09c41dc37400fe01692"), looks := true }, kinds := [], alts := [], laidByText := true, laidKinds := [.data, .data, .data, .data, .pinned], laidTests := true, laidLooks := .later }
def EvalWaysUptoCardSaid : Prop := Claim7.holds Tryz.pinned (.plain (OpenSpec.upto evalWaysSpec)) evalWaysUptoCard

/-- THE SECOND FORM's CARD OF 'cooperagelaw12.EvalRules'. -/
def evalRulesUptoCard : Claim7 := { stood := { row := evalRulesUptoRow, standIns := [], harness := (true, "87ef8543188392495c0bc8b27f20cbb20633830f8939b09c41dc37400fe01692"), looks := true }, kinds := [], alts := [], laidByText := true, laidKinds := [.data, .data, .data, .data, .pinned], laidTests := true, laidLooks := .later }
def EvalRulesUptoCardSaid : Prop := Claim7.holds Tryz.pinned (.plain (OpenSpec.upto evalRulesSpec)) evalRulesUptoCard

/-- THE SECOND FORM's CARD OF 'cooperagelaw12.EvalOnly'. -/
def evalOnlyUptoCard : Claim7 := { stood := { row := evalOnlyUptoRow, standIns := [], harness := (true, "87ef8543188392495c0bc8b27f20cbb20633830f8939b09c41dc37400fe01692"), looks := true }, kinds := [], alts := [], laidByText := true, laidKinds := [.data, .data, .data, .data, .pinned], laidTests := true, laidLooks := .later }
def EvalOnlyUptoCardSaid : Prop := Claim7.holds Tryz.pinned (.plain (OpenSpec.upto evalOnlySpec)) evalOnlyUptoCard

/-- THE SECOND FORM's CARD OF 'cooperagelaw12.EvalPhony'. -/
def evalPhonyUptoCard : Claim7 := { stood := { row := evalPhonyUptoRow, standIns := [], harness := (true, "87ef8543188392495c0bc8b27f20cbb20633830f8939b09c41dc37400fe01692"), looks := true }, kinds := [], alts := [], laidByText := true, laidKinds := [.data, .data, .data, .data, .pinned], laidTests := true, laidLooks := .later }
def EvalPhonyUptoCardSaid : Prop := Claim7.holds Tryz.pinned (.plain (OpenSpec.upto evalPhonySpec)) evalPhonyUptoCard
end Rows
end Go.Proofs.YtmfjolmfbdbegaaGreatDoor
