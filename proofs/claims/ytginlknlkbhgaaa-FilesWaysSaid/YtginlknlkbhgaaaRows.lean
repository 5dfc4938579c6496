/-
  No cell of these rows narrows 'for every input' (looked for: loops, veiled, ifaces, maps, wideKeys, modest, calm, conditions, laid).
  DERIVED. THE GIVEN ROWS OF THIS SEAT. 8 by the template 'for every input the law returns true; each argument reads behind the call as it read before'; 0 by the template 'total and deterministic' (their statements: YtginlknlkbhgaaaTotals.lean).
  GIVEN WITH THE SEED: the statements are not yours to turn. If you find one false, say at which input.
  Laid BY PROGRAM, IN A SANDBOX (cutbox-rows.mjs): the forced cells as the released guide's own fill.sh prints them over the translation b272d0a5d1cf56dd… (all of the seat's roots in one cut). By AI agents, Wed Nov 11 2026. No macro, syntax, notation, axiom, sorry.
-/
import Derived.Test.YtginlknlkbhgaaaChecked
import GoSem.Claim
import GoSem.ClaimJoined
import GoSem.ClaimMapViews
import Derived.JoinedTies
import Derived.KernelRfl
namespace Go.Proofs.Ytginlknlkbhgaaa
/- THE CELL 'sum', in the pinned program and in every row, IS THE sha256 OF THE DUMP (.gsa) THAT YtginlknlkbhgaaaProg.lean LOADS. Nothing in Lean hashes anything: it is a label: what it is worth is what the hold of that sum in a sandbox is worth. -/
noncomputable def Try.pinned : Pinned := { name := "ytginlknlkbhgaaa", sum := "b272d0a5d1cf56dda6ed5a42d5b87d96d4c7929c9a07cc544550dd87450fb0cd", checked := Try.checked }
namespace Rows
def none {H : Type} : Left H := { results := [], args := [] }

/-- 'cooperagelaw5.FilesPlays': WHATEVER THE INPUT: true; the input reads as it did. -/
def filesPlaysSpec : ChangeSpec := { name := "filesPlays", fn := fun _ => fun
  | [d1, d2] => { results := [.lit (.bool true)], args := [d1, d2] }
  | _ => none }
def filesPlaysRow : OpenClaim := { program := "ytginlknlkbhgaaa", sum := "b272d0a5d1cf56dda6ed5a42d5b87d96d4c7929c9a07cc544550dd87450fb0cd", func := "cooperage/cooperagelaw5.FilesPlays", spec := "filesPlays", inPlace := ["internal/abi.NoEscape"], unfollowed := true, recurses := true, apart := false }
def FilesPlaysSaid : Prop := filesPlaysRow.holds Try.pinned (OpenSpec.ofChange filesPlaysSpec)

/-- ITS FALSE NEIGHBOUR: 'it returns false'. Refute it at one input. -/
def filesPlaysWrong : ChangeSpec := { name := "filesPlays", fn := fun _ => fun
  | [d1, d2] => { results := [.lit (.bool false)], args := [d1, d2] }
  | _ => none }
def FilesPlaysWrongFalsely : Prop := filesPlaysRow.holds Try.pinned (OpenSpec.ofChange filesPlaysWrong)

/-- 'cooperagelaw5.FilesWhole': WHATEVER THE INPUT: true; the input reads as it did. -/
def filesWholeSpec : ChangeSpec := { name := "filesWhole", fn := fun _ => fun
  | [d1, d2, d3, d4, d5] => { results := [.lit (.bool true)], args := [d1, d2, d3, d4, d5] }
  | _ => none }
def filesWholeRow : OpenClaim := { program := "ytginlknlkbhgaaa", sum := "b272d0a5d1cf56dda6ed5a42d5b87d96d4c7929c9a07cc544550dd87450fb0cd", func := "cooperage/cooperagelaw5.FilesWhole", spec := "filesWhole", inPlace := ["internal/abi.NoEscape"], unfollowed := true, recurses := true, apart := false }
def FilesWholeSaid : Prop := filesWholeRow.holds Try.pinned (OpenSpec.ofChange filesWholeSpec)

/-- ITS FALSE NEIGHBOUR: 'it returns false'. Refute it at one input. -/
def filesWholeWrong : ChangeSpec := { name := "filesWhole", fn := fun _ => fun
  | [d1, d2, d3, d4, d5] => { results := [.lit (.bool false)], args := [d1, d2, d3, d4, d5] }
  | _ => none }
def FilesWholeWrongFalsely : Prop := filesWholeRow.holds Try.pinned (OpenSpec.ofChange filesWholeWrong)

/-- 'cooperagelaw5.FilesLast': WHATEVER THE INPUT: true; the input reads as it did. -/
def filesLastSpec : ChangeSpec := { name := "filesLast", fn := fun _ => fun
  | [d1, d2] => { results := [.lit (.bool true)], args := [d1, d2] }
  | _ => none }
def filesLastRow : OpenClaim := { program := "ytginlknlkbhgaaa", sum := "b272d0a5d1cf56dda6ed5a42d5b87d96d4c7929c9a07cc544550dd87450fb0cd", func := "cooperage/cooperagelaw5.FilesLast", spec := "filesLast", inPlace := ["internal/abi.NoEscape"], unfollowed := true, recurses := true, apart := false }
def FilesLastSaid : Prop := filesLastRow.holds Try.pinned (OpenSpec.ofChange filesLastSpec)

/-- ITS FALSE NEIGHBOUR: 'it returns false'. Refute it at one input. -/
def filesLastWrong : ChangeSpec := { name := "filesLast", fn := fun _ => fun
  | [d1, d2] => { results := [.lit (.bool false)], args := [d1, d2] }
  | _ => none }
def FilesLastWrongFalsely : Prop := filesLastRow.holds Try.pinned (OpenSpec.ofChange filesLastWrong)

/-- 'cooperagelaw5.FilesTimes': WHATEVER THE INPUT: true; the input reads as it did. -/
def filesTimesSpec : ChangeSpec := { name := "filesTimes", fn := fun _ => fun
  | [d] => { results := [.lit (.bool true)], args := [d] }
  | _ => none }
def filesTimesRow : OpenClaim := { program := "ytginlknlkbhgaaa", sum := "b272d0a5d1cf56dda6ed5a42d5b87d96d4c7929c9a07cc544550dd87450fb0cd", func := "cooperage/cooperagelaw5.FilesTimes", spec := "filesTimes", inPlace := ["internal/abi.NoEscape"], unfollowed := true, recurses := true, apart := false }
def FilesTimesSaid : Prop := filesTimesRow.holds Try.pinned (OpenSpec.ofChange filesTimesSpec)

/-- ITS FALSE NEIGHBOUR: 'it returns false'. Refute it at one input. -/
def filesTimesWrong : ChangeSpec := { name := "filesTimes", fn := fun _ => fun
  | [d] => { results := [.lit (.bool false)], args := [d] }
  | _ => none }
def FilesTimesWrongFalsely : Prop := filesTimesRow.holds Try.pinned (OpenSpec.ofChange filesTimesWrong)

/-- 'cooperagelaw5.FilesWays': WHATEVER THE INPUT: true; the input reads as it did. -/
def filesWaysSpec : ChangeSpec := { name := "filesWays", fn := fun _ => fun
  | [d1, d2] => { results := [.lit (.bool true)], args := [d1, d2] }
  | _ => none }
def filesWaysRow : OpenClaim := { program := "ytginlknlkbhgaaa", sum := "b272d0a5d1cf56dda6ed5a42d5b87d96d4c7929c9a07cc544550dd87450fb0cd", func := "cooperage/cooperagelaw5.FilesWays", spec := "filesWays", inPlace := ["internal/abi.NoEscape"], unfollowed := true, recurses := true, apart := false }
def FilesWaysSaid : Prop := filesWaysRow.holds Try.pinned (OpenSpec.ofChange filesWaysSpec)

/-- ITS FALSE NEIGHBOUR: 'it returns false'. Refute it at one input. -/
def filesWaysWrong : ChangeSpec := { name := "filesWays", fn := fun _ => fun
  | [d1, d2] => { results := [.lit (.bool false)], args := [d1, d2] }
  | _ => none }
def FilesWaysWrongFalsely : Prop := filesWaysRow.holds Try.pinned (OpenSpec.ofChange filesWaysWrong)

/-- 'cooperagelaw5.FilesCopy': WHATEVER THE INPUT: true; the input reads as it did. -/
def filesCopySpec : ChangeSpec := { name := "filesCopy", fn := fun _ => fun
  | [d1, d2] => { results := [.lit (.bool true)], args := [d1, d2] }
  | _ => none }
def filesCopyRow : OpenClaim := { program := "ytginlknlkbhgaaa", sum := "b272d0a5d1cf56dda6ed5a42d5b87d96d4c7929c9a07cc544550dd87450fb0cd", func := "cooperage/cooperagelaw5.FilesCopy", spec := "filesCopy", inPlace := ["internal/abi.NoEscape"], unfollowed := true, recurses := true, apart := false }
def FilesCopySaid : Prop := filesCopyRow.holds Try.pinned (OpenSpec.ofChange filesCopySpec)

/-- ITS FALSE NEIGHBOUR: 'it returns false'. Refute it at one input. -/
def filesCopyWrong : ChangeSpec := { name := "filesCopy", fn := fun _ => fun
  | [d1, d2] => { results := [.lit (.bool false)], args := [d1, d2] }
  | _ => none }
def FilesCopyWrongFalsely : Prop := filesCopyRow.holds Try.pinned (OpenSpec.ofChange filesCopyWrong)

/-- 'cooperagelaw5.FilesTurn': WHATEVER THE INPUT: true; the input reads as it did. -/
def filesTurnSpec : ChangeSpec := { name := "filesTurn", fn := fun _ => fun
  | [d1, d2, d3] => { results := [.lit (.bool true)], args := [d1, d2, d3] }
  | _ => none }
def filesTurnRow : OpenClaim := { program := "ytginlknlkbhgaaa", sum := "b272d0a5d1cf56dda6ed5a42d5b87d96d4c7929c9a07cc544550dd87450fb0cd", func := "cooperage/cooperagelaw5.FilesTurn", spec := "filesTurn", inPlace := ["internal/abi.NoEscape"], unfollowed := true, recurses := true, apart := false }
def FilesTurnSaid : Prop := filesTurnRow.holds Try.pinned (OpenSpec.ofChange filesTurnSpec)

/-- ITS FALSE NEIGHBOUR: 'it returns false'. Refute it at one input. -/
def filesTurnWrong : ChangeSpec := { name := "filesTurn", fn := fun _ => fun
  | [d1, d2, d3] => { results := [.lit (.bool false)], args := [d1, d2, d3] }
  | _ => none }
def FilesTurnWrongFalsely : Prop := filesTurnRow.holds Try.pinned (OpenSpec.ofChange filesTurnWrong)

/-- 'cooperagelaw5.FilesNext': WHATEVER THE INPUT: true; the input reads as it did. -/
def filesNextSpec : ChangeSpec := { name := "filesNext", fn := fun _ => fun
  | [d] => { results := [.lit (.bool true)], args := [d] }
  | _ => none }
def filesNextRow : OpenClaim := { program := "ytginlknlkbhgaaa", sum := "b272d0a5d1cf56dda6ed5a42d5b87d96d4c7929c9a07cc544550dd87450fb0cd", func := "cooperage/cooperagelaw5.FilesNext", spec := "filesNext", inPlace := ["internal/abi.NoEscape"], unfollowed := true, recurses := true, apart := false }
def FilesNextSaid : Prop := filesNextRow.holds Try.pinned (OpenSpec.ofChange filesNextSpec)

/-- ITS FALSE NEIGHBOUR: 'it returns false'. Refute it at one input. -/
def filesNextWrong : ChangeSpec := { name := "filesNext", fn := fun _ => fun
  | [d] => { results := [.lit (.bool false)], args := [d] }
  | _ => none }
def FilesNextWrongFalsely : Prop := filesNextRow.holds Try.pinned (OpenSpec.ofChange filesNextWrong)

/- THE SECOND FORM. 'bulk': how many values and letters a reading holds, each counted each time it is reached (what is shared counts as often as it is met; a slice's spare places count too). A statement '..UptoSaid' is the law's where the arguments, and the package variables that the reading takes, are together of bulk at most 1048576: NARROWER than '..Said'. Prove '..Said' where nothing that the law and all that it calls make is longer than what came in: it says more and counts as full. Else prove '..UptoSaid'. A law counts once. -/
mutual
def uptoBulk {H : Type} : DataW H → Nat
  | .lit (.string bytes) => bytes.length + 1
  | .lit _ => 1
  | .nil => 1
  | .ptr d => uptoBulk d + 1
  | .slice elems spare => uptoBulkAll elems + uptoBulkAll spare + 1
  | .agg parts => uptoBulkAll parts + 1
  | .iface _ d => uptoBulk d + 1
  | .map entries => uptoBulkEntries entries + 1
  | .held _ => 1
def uptoBulkAll {H : Type} : List (DataW H) → Nat
  | [] => 0
  | d :: r => uptoBulk d + uptoBulkAll r
def uptoBulkEntries {H : Type} : List (Lit × DataW H) → Nat
  | [] => 0
  | x :: r => uptoBulkEntry x + uptoBulkEntries r
def uptoBulkEntry {H : Type} : Lit × DataW H → Nat
  | (.string bytes, d) => bytes.length + uptoBulk d + 1
  | (_, d) => uptoBulk d + 1
 end
def uptoSmall : (H : Type) → List (DataW H) → Bool := fun _ ds => decide (uptoBulkAll ds ≤ 1048576)
def OpenSpec.upto (s : _root_.Go.ChangeSpec) : _root_.Go.OpenSpec := { _root_.Go.OpenSpec.ofChange s with cond := some uptoSmall }

/-- 'cooperagelaw5.FilesPlays', WHERE WHAT IT READS IS OF BULK AT MOST 1048576: true; the input reads as it did. -/
def filesPlaysUptoRow : OpenClaim := { program := "ytginlknlkbhgaaa", sum := "b272d0a5d1cf56dda6ed5a42d5b87d96d4c7929c9a07cc544550dd87450fb0cd", func := "cooperage/cooperagelaw5.FilesPlays", spec := "filesPlays", inPlace := ["internal/abi.NoEscape"], unfollowed := true, recurses := true, apart := false, narrowed := true }
def FilesPlaysUptoSaid : Prop := filesPlaysUptoRow.holds Try.pinned (OpenSpec.upto filesPlaysSpec)

/-- 'cooperagelaw5.FilesWhole', WHERE WHAT IT READS IS OF BULK AT MOST 1048576: true; the input reads as it did. -/
def filesWholeUptoRow : OpenClaim := { program := "ytginlknlkbhgaaa", sum := "b272d0a5d1cf56dda6ed5a42d5b87d96d4c7929c9a07cc544550dd87450fb0cd", func := "cooperage/cooperagelaw5.FilesWhole", spec := "filesWhole", inPlace := ["internal/abi.NoEscape"], unfollowed := true, recurses := true, apart := false, narrowed := true }
def FilesWholeUptoSaid : Prop := filesWholeUptoRow.holds Try.pinned (OpenSpec.upto filesWholeSpec)

/-- 'cooperagelaw5.FilesLast', WHERE WHAT IT READS IS OF BULK AT MOST 1048576: true; the input reads as it did. -/
def filesLastUptoRow : OpenClaim := { program := "ytginlknlkbhgaaa", sum := "b272d0a5d1cf56dda6ed5a42d5b87d96d4c7929c9a07cc544550dd87450fb0cd", func := "cooperage/cooperagelaw5.FilesLast", spec := "filesLast", inPlace := ["internal/abi.NoEscape"], unfollowed := true, recurses := true, apart := false, narrowed := true }
def FilesLastUptoSaid : Prop := filesLastUptoRow.holds Try.pinned (OpenSpec.upto filesLastSpec)

/-- 'cooperagelaw5.FilesTimes', WHERE WHAT IT READS IS OF BULK AT MOST 1048576: true; the input reads as it did. -/
def filesTimesUptoRow : OpenClaim := { program := "ytginlknlkbhgaaa", sum := "b272d0a5d1cf56dda6ed5a42d5b87d96d4c7929c9a07cc544550dd87450fb0cd", func := "cooperage/cooperagelaw5.FilesTimes", spec := "filesTimes", inPlace := ["internal/abi.NoEscape"], unfollowed := true, recurses := true, apart := false, narrowed := true }
def FilesTimesUptoSaid : Prop := filesTimesUptoRow.holds Try.pinned (OpenSpec.upto filesTimesSpec)

/-- 'cooperagelaw5.FilesWays', WHERE WHAT IT READS IS OF BULK AT MOST 1048576: true; the input reads as it did. -/
def filesWaysUptoRow : OpenClaim := { program := "ytginlknlkbhgaaa", sum := "b272d0a5d1cf56dda6ed5a42d5b87d96d4c7929c9a07cc544550dd87450fb0cd", func := "cooperage/cooperagelaw5.FilesWays", spec := "filesWays", inPlace := ["internal/abi.NoEscape"], unfollowed := true, recurses := true, apart := false, narrowed := true }
def FilesWaysUptoSaid : Prop := filesWaysUptoRow.holds Try.pinned (OpenSpec.upto filesWaysSpec)

/-- 'cooperagelaw5.FilesCopy', WHERE WHAT IT READS IS OF BULK AT MOST 1048576: true; the input reads as it did. -/
def filesCopyUptoRow : OpenClaim := { program := "ytginlknlkbhgaaa", sum := "b272d0a5d1cf56dda6ed5a42d5b87d96d4c7929c9a07cc544550dd87450fb0cd", func := "cooperage/cooperagelaw5.FilesCopy", spec := "filesCopy", inPlace := ["internal/abi.NoEscape"], unfollowed := true, recurses := true, apart := false, narrowed := true }
def FilesCopyUptoSaid : Prop := filesCopyUptoRow.holds Try.pinned (OpenSpec.upto filesCopySpec)

/-- 'cooperagelaw5.FilesTurn', WHERE WHAT IT READS IS OF BULK AT MOST 1048576: true; the input reads as it did. -/
def filesTurnUptoRow : OpenClaim := { program := "ytginlknlkbhgaaa", sum := "b272d0a5d1cf56dda6ed5a42d5b87d96d4c7929c9a07cc544550dd87450fb0cd", func := "cooperage/cooperagelaw5.FilesTurn", spec := "filesTurn", inPlace := ["internal/abi.NoEscape"], unfollowed := true, recurses := true, apart := false, narrowed := true }
def FilesTurnUptoSaid : Prop := filesTurnUptoRow.holds Try.pinned (OpenSpec.upto filesTurnSpec)

/-- 'cooperagelaw5.FilesNext', WHERE WHAT IT READS IS OF BULK AT MOST 1048576: true; the input reads as it did. -/
def filesNextUptoRow : OpenClaim := { program := "ytginlknlkbhgaaa", sum := "b272d0a5d1cf56dda6ed5a42d5b87d96d4c7929c9a07cc544550dd87450fb0cd", func := "cooperage/cooperagelaw5.FilesNext", spec := "filesNext", inPlace := ["internal/abi.NoEscape"], unfollowed := true, recurses := true, apart := false, narrowed := true }
def FilesNextUptoSaid : Prop := filesNextUptoRow.holds Try.pinned (OpenSpec.upto filesNextSpec)

end Rows
end Go.Proofs.Ytginlknlkbhgaaa
