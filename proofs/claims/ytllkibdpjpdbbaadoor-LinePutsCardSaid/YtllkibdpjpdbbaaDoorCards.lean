/-
  DERIVED. GIVEN WITH THE SEED: THE CARDS: each row of YtllkibdpjpdbbaaDoorRows.lean that lists a variable, with what it lists TIED to the program's text (the seventh form; the later family's looks); each row that meets fmt, with fmt's text TOLD by the authors' own Lean function (tested against real Go, not proved from fmt's source: count such statements apart). THE CARD IS WHAT COUNTS. Prove the row's statement (the work); the ties are given (YtllkibdpjpdbbaaDoorTie.lean); close each card by the builder's one call (the guide's Derived/Test/ToyasCard.lean, 'card_holds'). Laid BY PROGRAM, IN A SANDBOX (cutbox-door.mjs). By AI agents, Wed Nov 11 2026. No macro, syntax, notation, axiom, sorry.
-/
import Derived.Test.YtllkibdpjpdbbaaDoorRows
import GoSem.ClaimSeven
namespace Go.Proofs.YtllkibdpjpdbbaaDoor
namespace Rows

/-- THE TIED CARD OF 'cooperagelaw4.LinePuts'. -/
def linePutsCard : Claim7 := { stood := { row := linePutsRow, standIns := [], harness := (true, "dbc84396cb509429388f4eef117778616e5338d1621c75dfe77747534924fe99"), looks := false }, kinds := [], alts := [], laidByText := true, laidKinds := [.data, .pinned], laidTests := true, laidLooks := .later }
def LinePutsCardSaid : Prop := Claim7.holds Tryd.pinned (.plain (OpenSpec.ofChange linePutsSpec)) linePutsCard

/-- THE TIED CARD OF 'cooperagelaw4.LineTakes'. -/
def lineTakesCard : Claim7 := { stood := { row := lineTakesRow, standIns := [], harness := (true, "dbc84396cb509429388f4eef117778616e5338d1621c75dfe77747534924fe99"), looks := false }, kinds := [], alts := [], laidByText := true, laidKinds := [.data, .pinned], laidTests := true, laidLooks := .later }
def LineTakesCardSaid : Prop := Claim7.holds Tryd.pinned (.plain (OpenSpec.ofChange lineTakesSpec)) lineTakesCard

/-- THE TIED CARD OF 'cooperagelaw4.LineTorn'. -/
def lineTornCard : Claim7 := { stood := { row := lineTornRow, standIns := [], harness := (true, "dbc84396cb509429388f4eef117778616e5338d1621c75dfe77747534924fe99"), looks := false }, kinds := [], alts := [], laidByText := true, laidKinds := [.data, .pinned], laidTests := true, laidLooks := .later }
def LineTornCardSaid : Prop := Claim7.holds Tryd.pinned (.plain (OpenSpec.ofChange lineTornSpec)) lineTornCard

/-- THE TIED CARD OF 'cooperagelaw4.LineTurns'. -/
def lineTurnsCard : Claim7 := { stood := { row := lineTurnsRow, standIns := [], harness := (true, "dbc84396cb509429388f4eef117778616e5338d1621c75dfe77747534924fe99"), looks := false }, kinds := [], alts := [], laidByText := true, laidKinds := [.data, .pinned], laidTests := true, laidLooks := .later }
def LineTurnsCardSaid : Prop := Claim7.holds Tryd.pinned (.plain (OpenSpec.ofChange lineTurnsSpec)) lineTurnsCard

/-- THE TIED CARD OF 'cooperagelaw4.LineOnce'. -/
def lineOnceCard : Claim7 := { stood := { row := lineOnceRow, standIns := [], harness := (true, "dbc84396cb509429388f4eef117778616e5338d1621c75dfe77747534924fe99"), looks := false }, kinds := [], alts := [], laidByText := true, laidKinds := [.data, .pinned], laidTests := true, laidLooks := .later }
def LineOnceCardSaid : Prop := Claim7.holds Tryd.pinned (.plain (OpenSpec.ofChange lineOnceSpec)) lineOnceCard

/-- THE TIED CARD OF 'cooperagelaw4.LineBounds'. -/
def lineBoundsCard : Claim7 := { stood := { row := lineBoundsRow, standIns := [], harness := (true, "dbc84396cb509429388f4eef117778616e5338d1621c75dfe77747534924fe99"), looks := false }, kinds := [], alts := [], laidByText := true, laidKinds := [.data, .pinned], laidTests := true, laidLooks := .later }
def LineBoundsCardSaid : Prop := Claim7.holds Tryd.pinned (.plain (OpenSpec.ofChange lineBoundsSpec)) lineBoundsCard

/-- THE TIED CARD OF 'cooperagelaw4.LineMany'. -/
def lineManyCard : Claim7 := { stood := { row := lineManyRow, standIns := [], harness := (true, "dbc84396cb509429388f4eef117778616e5338d1621c75dfe77747534924fe99"), looks := false }, kinds := [], alts := [], laidByText := true, laidKinds := [.data, .pinned], laidTests := true, laidLooks := .later }
def LineManyCardSaid : Prop := Claim7.holds Tryd.pinned (.plain (OpenSpec.ofChange lineManySpec)) lineManyCard

/-- THE SECOND FORM's CARD OF 'cooperagelaw4.LinePuts'. -/
def linePutsUptoCard : Claim7 := { stood := { row := linePutsUptoRow, standIns := [], harness := (true, "dbc84396cb509429388f4eef117778616e5338d1621c75dfe77747534924fe99"), looks := false }, kinds := [], alts := [], laidByText := true, laidKinds := [.data, .pinned], laidTests := true, laidLooks := .later }
def LinePutsUptoCardSaid : Prop := Claim7.holds Tryd.pinned (.plain (OpenSpec.upto linePutsSpec)) linePutsUptoCard

/-- THE SECOND FORM's CARD OF 'cooperagelaw4.LineTakes'. -/
def lineTakesUptoCard : Claim7 := { stood := { row := lineTakesUptoRow, standIns := [], harness := (true, "dbc84396cb509429388f4eef117778616e5338d1621c75dfe77747534924fe99"), looks := false }, kinds := [], alts := [], laidByText := true, laidKinds := [.data, .pinned], laidTests := true, laidLooks := .later }
def LineTakesUptoCardSaid : Prop := Claim7.holds Tryd.pinned (.plain (OpenSpec.upto lineTakesSpec)) lineTakesUptoCard

/-- THE SECOND FORM's CARD OF 'cooperagelaw4.LineTorn'. -/
def lineTornUptoCard : Claim7 := { stood := { row := lineTornUptoRow, standIns := [], harness := (true, "dbc84396cb509429388f4eef117778616e5338d1621c75dfe77747534924fe99"), looks := false }, kinds := [], alts := [], laidByText := true, laidKinds := [.data, .pinned], laidTests := true, laidLooks := .later }
def LineTornUptoCardSaid : Prop := Claim7.holds Tryd.pinned (.plain (OpenSpec.upto lineTornSpec)) lineTornUptoCard

/-- THE SECOND FORM's CARD OF 'cooperagelaw4.LineTurns'. -/
def lineTurnsUptoCard : Claim7 := { stood := { row := lineTurnsUptoRow, standIns := [], harness := (true, "dbc84396cb509429388f4eef117778616e5338d1621c75dfe77747534924fe99"), looks := false }, kinds := [], alts := [], laidByText := true, laidKinds := [.data, .pinned], laidTests := true, laidLooks := .later }
def LineTurnsUptoCardSaid : Prop := Claim7.holds Tryd.pinned (.plain (OpenSpec.upto lineTurnsSpec)) lineTurnsUptoCard

/-- THE SECOND FORM's CARD OF 'cooperagelaw4.LineOnce'. -/
def lineOnceUptoCard : Claim7 := { stood := { row := lineOnceUptoRow, standIns := [], harness := (true, "dbc84396cb509429388f4eef117778616e5338d1621c75dfe77747534924fe99"), looks := false }, kinds := [], alts := [], laidByText := true, laidKinds := [.data, .pinned], laidTests := true, laidLooks := .later }
def LineOnceUptoCardSaid : Prop := Claim7.holds Tryd.pinned (.plain (OpenSpec.upto lineOnceSpec)) lineOnceUptoCard

/-- THE SECOND FORM's CARD OF 'cooperagelaw4.LineBounds'. -/
def lineBoundsUptoCard : Claim7 := { stood := { row := lineBoundsUptoRow, standIns := [], harness := (true, "dbc84396cb509429388f4eef117778616e5338d1621c75dfe77747534924fe99"), looks := false }, kinds := [], alts := [], laidByText := true, laidKinds := [.data, .pinned], laidTests := true, laidLooks := .later }
def LineBoundsUptoCardSaid : Prop := Claim7.holds Tryd.pinned (.plain (OpenSpec.upto lineBoundsSpec)) lineBoundsUptoCard

/-- THE SECOND FORM's CARD OF 'cooperagelaw4.LineMany'. -/
def lineManyUptoCard : Claim7 := { stood := { row := lineManyUptoRow, standIns := [], harness := (true, "dbc84396cb509429388f4eef117778616e5338d1621c75dfe77747534924fe99"), looks := false }, kinds := [], alts := [], laidByText := true, laidKinds := [.data, .pinned], laidTests := true, laidLooks := .later }
def LineManyUptoCardSaid : Prop := Claim7.holds Tryd.pinned (.plain (OpenSpec.upto lineManySpec)) lineManyUptoCard
end Rows
end Go.Proofs.YtllkibdpjpdbbaaDoor
