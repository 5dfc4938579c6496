/-
  DERIVED. GIVEN WITH THE SEED: THE CARDS: each row of YtmonbnmjbgdkoaaDoorRows.lean that lists a variable, with what it lists TIED to the program's text (the seventh form; the later family's looks); each row that meets fmt, with fmt's text TOLD by the authors' own Lean function (tested against real Go, not proved from fmt's source: count such statements apart). THE CARD IS WHAT COUNTS. Prove the row's statement (the work); the ties are given (YtmonbnmjbgdkoaaDoorTie.lean); close each card by the builder's one call (the guide's Derived/Test/ToyasCard.lean, 'card_holds'). Laid BY PROGRAM, IN A SANDBOX (cutbox-door.mjs). By AI agents, Wed Nov 11 2026. No macro, syntax, notation, axiom, sorry.
-/
import Derived.Test.YtmonbnmjbgdkoaaDoorRows
import GoSem.ClaimSeven
namespace Go.Proofs.YtmonbnmjbgdkoaaDoor
namespace Rows

/-- THE TIED CARD OF 'cooperagelaw8.LexBare'. -/
def lexBareCard : Claim7 := { stood := { row := lexBareRow, standIns := [], harness := (true, "fd5823f3d6618c7d894ff9a5b5d9bc150f7d7f987394884bf2ab3369d08e9c47"), looks := false }, kinds := [], alts := [], laidByText := true, laidKinds := [.data, .pinned], laidTests := true, laidLooks := .later }
def LexBareCardSaid : Prop := Claim7.holds Tryd.pinned (.plain (OpenSpec.ofChange lexBareSpec)) lexBareCard

/-- THE TIED CARD OF 'cooperagelaw8.LexBetween'. -/
def lexBetweenCard : Claim7 := { stood := { row := lexBetweenRow, standIns := [], harness := (true, "fd5823f3d6618c7d894ff9a5b5d9bc150f7d7f987394884bf2ab3369d08e9c47"), looks := false }, kinds := [], alts := [], laidByText := true, laidKinds := [.data, .pinned], laidTests := true, laidLooks := .later }
def LexBetweenCardSaid : Prop := Claim7.holds Tryd.pinned (.plain (OpenSpec.ofChange lexBetweenSpec)) lexBetweenCard

/-- THE TIED CARD OF 'cooperagelaw8.LexJoins'. -/
def lexJoinsCard : Claim7 := { stood := { row := lexJoinsRow, standIns := [], harness := (true, "fd5823f3d6618c7d894ff9a5b5d9bc150f7d7f987394884bf2ab3369d08e9c47"), looks := false }, kinds := [], alts := [], laidByText := true, laidKinds := [.data, .pinned], laidTests := true, laidLooks := .later }
def LexJoinsCardSaid : Prop := Claim7.holds Tryd.pinned (.plain (OpenSpec.ofChange lexJoinsSpec)) lexJoinsCard

/-- THE TIED CARD OF 'cooperagelaw8.LexTabs'. -/
def lexTabsCard : Claim7 := { stood := { row := lexTabsRow, standIns := [], harness := (true, "fd5823f3d6618c7d894ff9a5b5d9bc150f7d7f987394884bf2ab3369d08e9c47"), looks := false }, kinds := [], alts := [], laidByText := true, laidKinds := [.data, .pinned], laidTests := true, laidLooks := .later }
def LexTabsCardSaid : Prop := Claim7.holds Tryd.pinned (.plain (OpenSpec.ofChange lexTabsSpec)) lexTabsCard

/-- THE TIED CARD OF 'cooperagelaw8.LexMany'. -/
def lexManyCard : Claim7 := { stood := { row := lexManyRow, standIns := [], harness := (true, "fd5823f3d6618c7d894ff9a5b5d9bc150f7d7f987394884bf2ab3369d08e9c47"), looks := false }, kinds := [], alts := [], laidByText := true, laidKinds := [.data, .pinned], laidTests := true, laidLooks := .later }
def LexManyCardSaid : Prop := Claim7.holds Tryd.pinned (.plain (OpenSpec.ofChange lexManySpec)) lexManyCard

/-- THE SECOND FORM's CARD OF 'cooperagelaw8.LexBare'. -/
def lexBareUptoCard : Claim7 := { stood := { row := lexBareUptoRow, standIns := [], harness := (true, "fd5823f3d6618c7d894ff9a5b5d9bc150f7d7f987394884bf2ab3369d08e9c47"), looks := false }, kinds := [], alts := [], laidByText := true, laidKinds := [.data, .pinned], laidTests := true, laidLooks := .later }
def LexBareUptoCardSaid : Prop := Claim7.holds Tryd.pinned (.plain (OpenSpec.upto lexBareSpec)) lexBareUptoCard

/-- THE SECOND FORM's CARD OF 'cooperagelaw8.LexBetween'. -/
def lexBetweenUptoCard : Claim7 := { stood := { row := lexBetweenUptoRow, standIns := [], harness := (true, "fd5823f3d6618c7d894ff9a5b5d9bc150f7d7f987394884bf2ab3369d08e9c47"), looks := false }, kinds := [], alts := [], laidByText := true, laidKinds := [.data, .pinned], laidTests := true, laidLooks := .later }
def LexBetweenUptoCardSaid : Prop := Claim7.holds Tryd.pinned (.plain (OpenSpec.upto lexBetweenSpec)) lexBetweenUptoCard

/-- THE SECOND FORM's CARD OF 'cooperagelaw8.LexJoins'. -/
def lexJoinsUptoCard : Claim7 := { stood := { row := lexJoinsUptoRow, standIns := [], harness := (true, "fd5823f3d6618c7d894ff9a5b5d9bc150f7d7f987394884bf2ab3369d08e9c47"), looks := false }, kinds := [], alts := [], laidByText := true, laidKinds := [.data, .pinned], laidTests := true, laidLooks := .later }
def LexJoinsUptoCardSaid : Prop := Claim7.holds Tryd.pinned (.plain (OpenSpec.upto lexJoinsSpec)) lexJoinsUptoCard

/-- THE SECOND FORM's CARD OF 'cooperagelaw8.LexTabs'. -/
def lexTabsUptoCard : Claim7 := { stood := { row := lexTabsUptoRow, standIns := [], harness := (true, "fd5823f3d6618c7d894ff9a5b5d9bc150f7d7f987394884bf2ab3369d08e9c47"), looks := false }, kinds := [], alts := [], laidByText := true, laidKinds := [.data, .pinned], laidTests := true, laidLooks := .later }
def LexTabsUptoCardSaid : Prop := Claim7.holds Tryd.pinned (.plain (OpenSpec.upto lexTabsSpec)) lexTabsUptoCard

/-- THE SECOND FORM's CARD OF 'cooperagelaw8.LexMany'. -/
def lexManyUptoCard : Claim7 := { stood := { row := lexManyUptoRow, standIns := [], harness := (true, "fd5823f3d6618c7d894ff9a5b5d9bc150f7d7f987394884bf2ab3369d08e9c47"), looks := false }, kinds := [], alts := [], laidByText := true, laidKinds := [.data, .pinned], laidTests := true, laidLooks := .later }
def LexManyUptoCardSaid : Prop := Claim7.holds Tryd.pinned (.plain (OpenSpec.upto lexManySpec)) lexManyUptoCard
end Rows
end Go.Proofs.YtmonbnmjbgdkoaaDoor
