/-
  No cell of these rows narrows 'for every input' (looked for: loops, veiled, ifaces, maps, wideKeys, modest, calm, conditions, laid).
  DERIVED. THE GIVEN ROWS OF THIS SEAT. 6 by the template 'for every input the law returns true; each argument reads behind the call as it read before'; 0 by the template 'total and deterministic' (their statements: YtijpihldeaflgaaTotals.lean).
  GIVEN WITH THE SEED: the statements are not yours to turn. If you find one false, say at which input.
  Laid BY PROGRAM, IN A SANDBOX (cutbox-rows.mjs): the forced cells as the released guide's own fill.sh prints them over the translation 06ee34c0365270dc… (all of the seat's roots in one cut). By AI agents, Wed Nov 11 2026. No macro, syntax, notation, axiom, sorry.
-/
import Derived.Test.YtijpihldeaflgaaChecked
import GoSem.Claim
import GoSem.ClaimJoined
import GoSem.ClaimMapViews
import Derived.JoinedTies
import Derived.KernelRfl
namespace Go.Proofs.Ytijpihldeaflgaa
/- THE CELL 'sum', in the pinned program and in every row, IS THE sha256 OF THE DUMP (.gsa) THAT YtijpihldeaflgaaProg.lean LOADS. Nothing in Lean hashes anything: it is a label: what it is worth is what the hold of that sum in a sandbox is worth. -/
noncomputable def Try.pinned : Pinned := { name := "ytijpihldeaflgaa", sum := "06ee34c0365270dcc629191d79f4b7951c19ecb0a43e13f01d589c5ba728fca7", checked := Try.checked }
namespace Rows
def none {H : Type} : Left H := { results := [], args := [] }

/-- 'cooperagelaw2.GlobMatches': WHATEVER THE INPUT: true; the input reads as it did. -/
def globMatchesSpec : ChangeSpec := { name := "globMatches", fn := fun _ => fun
  | [d1, d2, d3] => { results := [.lit (.bool true)], args := [d1, d2, d3] }
  | _ => none }
def globMatchesRow : OpenClaim := { program := "ytijpihldeaflgaa", sum := "06ee34c0365270dcc629191d79f4b7951c19ecb0a43e13f01d589c5ba728fca7", func := "cooperage/cooperagelaw2.GlobMatches", spec := "globMatches", inPlace := ["internal/bytealg.CountString", "internal/bytealg.IndexByteString", "internal/bytealg.IndexString"], unfollowed := true, recurses := true, named := ["internal/bytealg.MaxLen"], apart := false }
def GlobMatchesSaid : Prop := globMatchesRow.holds Try.pinned (OpenSpec.ofChange globMatchesSpec)

/-- ITS FALSE NEIGHBOUR: 'it returns false'. Refute it at one input. -/
def globMatchesWrong : ChangeSpec := { name := "globMatches", fn := fun _ => fun
  | [d1, d2, d3] => { results := [.lit (.bool false)], args := [d1, d2, d3] }
  | _ => none }
def GlobMatchesWrongFalsely : Prop := globMatchesRow.holds Try.pinned (OpenSpec.ofChange globMatchesWrong)

/-- 'cooperagelaw2.GlobFills': WHATEVER THE INPUT: true; the input reads as it did. -/
def globFillsSpec : ChangeSpec := { name := "globFills", fn := fun _ => fun
  | [d1, d2, d3] => { results := [.lit (.bool true)], args := [d1, d2, d3] }
  | _ => none }
def globFillsRow : OpenClaim := { program := "ytijpihldeaflgaa", sum := "06ee34c0365270dcc629191d79f4b7951c19ecb0a43e13f01d589c5ba728fca7", func := "cooperage/cooperagelaw2.GlobFills", spec := "globFills", inPlace := ["internal/bytealg.CountString", "internal/bytealg.IndexByteString", "internal/bytealg.IndexString"], named := ["internal/bytealg.MaxLen"], apart := false }
def GlobFillsSaid : Prop := globFillsRow.holds Try.pinned (OpenSpec.ofChange globFillsSpec)

/-- ITS FALSE NEIGHBOUR: 'it returns false'. Refute it at one input. -/
def globFillsWrong : ChangeSpec := { name := "globFills", fn := fun _ => fun
  | [d1, d2, d3] => { results := [.lit (.bool false)], args := [d1, d2, d3] }
  | _ => none }
def GlobFillsWrongFalsely : Prop := globFillsRow.holds Try.pinned (OpenSpec.ofChange globFillsWrong)

/-- 'cooperagelaw2.GlobBack': WHATEVER THE INPUT: true; the input reads as it did. -/
def globBackSpec : ChangeSpec := { name := "globBack", fn := fun _ => fun
  | [d1, d2] => { results := [.lit (.bool true)], args := [d1, d2] }
  | _ => none }
def globBackRow : OpenClaim := { program := "ytijpihldeaflgaa", sum := "06ee34c0365270dcc629191d79f4b7951c19ecb0a43e13f01d589c5ba728fca7", func := "cooperage/cooperagelaw2.GlobBack", spec := "globBack", inPlace := ["internal/bytealg.CountString", "internal/bytealg.IndexByteString", "internal/bytealg.IndexString"], named := ["internal/bytealg.MaxLen"], apart := false }
def GlobBackSaid : Prop := globBackRow.holds Try.pinned (OpenSpec.ofChange globBackSpec)

/-- ITS FALSE NEIGHBOUR: 'it returns false'. Refute it at one input. -/
def globBackWrong : ChangeSpec := { name := "globBack", fn := fun _ => fun
  | [d1, d2] => { results := [.lit (.bool false)], args := [d1, d2] }
  | _ => none }
def GlobBackWrongFalsely : Prop := globBackRow.holds Try.pinned (OpenSpec.ofChange globBackWrong)

/-- 'cooperagelaw2.GlobTurns': WHATEVER THE INPUT: true; the input reads as it did. -/
def globTurnsSpec : ChangeSpec := { name := "globTurns", fn := fun _ => fun
  | [d1, d2, d3] => { results := [.lit (.bool true)], args := [d1, d2, d3] }
  | _ => none }
def globTurnsRow : OpenClaim := { program := "ytijpihldeaflgaa", sum := "06ee34c0365270dcc629191d79f4b7951c19ecb0a43e13f01d589c5ba728fca7", func := "cooperage/cooperagelaw2.GlobTurns", spec := "globTurns", inPlace := ["internal/bytealg.CountString", "internal/bytealg.IndexByteString", "internal/bytealg.IndexString"], unfollowed := true, recurses := true, named := ["internal/bytealg.MaxLen"], apart := false }
def GlobTurnsSaid : Prop := globTurnsRow.holds Try.pinned (OpenSpec.ofChange globTurnsSpec)

/-- ITS FALSE NEIGHBOUR: 'it returns false'. Refute it at one input. -/
def globTurnsWrong : ChangeSpec := { name := "globTurns", fn := fun _ => fun
  | [d1, d2, d3] => { results := [.lit (.bool false)], args := [d1, d2, d3] }
  | _ => none }
def GlobTurnsWrongFalsely : Prop := globTurnsRow.holds Try.pinned (OpenSpec.ofChange globTurnsWrong)

/-- 'cooperagelaw2.GlobEnds': WHATEVER THE INPUT: true; the input reads as it did. -/
def globEndsSpec : ChangeSpec := { name := "globEnds", fn := fun _ => fun
  | [d1, d2, d3] => { results := [.lit (.bool true)], args := [d1, d2, d3] }
  | _ => none }
def globEndsRow : OpenClaim := { program := "ytijpihldeaflgaa", sum := "06ee34c0365270dcc629191d79f4b7951c19ecb0a43e13f01d589c5ba728fca7", func := "cooperage/cooperagelaw2.GlobEnds", spec := "globEnds", inPlace := ["internal/bytealg.CountString", "internal/bytealg.IndexByteString", "internal/bytealg.IndexString"], named := ["internal/bytealg.MaxLen"], apart := false }
def GlobEndsSaid : Prop := globEndsRow.holds Try.pinned (OpenSpec.ofChange globEndsSpec)

/-- ITS FALSE NEIGHBOUR: 'it returns false'. Refute it at one input. -/
def globEndsWrong : ChangeSpec := { name := "globEnds", fn := fun _ => fun
  | [d1, d2, d3] => { results := [.lit (.bool false)], args := [d1, d2, d3] }
  | _ => none }
def GlobEndsWrongFalsely : Prop := globEndsRow.holds Try.pinned (OpenSpec.ofChange globEndsWrong)

/-- 'cooperagelaw2.GlobAny': WHATEVER THE INPUT: true; the input reads as it did. -/
def globAnySpec : ChangeSpec := { name := "globAny", fn := fun _ => fun
  | [d1, d2, d3] => { results := [.lit (.bool true)], args := [d1, d2, d3] }
  | _ => none }
def globAnyRow : OpenClaim := { program := "ytijpihldeaflgaa", sum := "06ee34c0365270dcc629191d79f4b7951c19ecb0a43e13f01d589c5ba728fca7", func := "cooperage/cooperagelaw2.GlobAny", spec := "globAny", inPlace := ["internal/bytealg.CountString", "internal/bytealg.IndexByteString", "internal/bytealg.IndexString"], unfollowed := true, recurses := true, named := ["internal/bytealg.MaxLen"], apart := false }
def GlobAnySaid : Prop := globAnyRow.holds Try.pinned (OpenSpec.ofChange globAnySpec)

/-- ITS FALSE NEIGHBOUR: 'it returns false'. Refute it at one input. -/
def globAnyWrong : ChangeSpec := { name := "globAny", fn := fun _ => fun
  | [d1, d2, d3] => { results := [.lit (.bool false)], args := [d1, d2, d3] }
  | _ => none }
def GlobAnyWrongFalsely : Prop := globAnyRow.holds Try.pinned (OpenSpec.ofChange globAnyWrong)

/- THE SECOND FORM. 'bulk': how many values and letters a reading holds, each counted each time it is reached (what is shared counts as often as it is met; a slice's spare places count too). A statement '..UptoSaid' is the law's where the arguments, and the package variables that the reading takes, are together of bulk at most 1048576: NARROWER than '..Said'. Prove '..Said' where nothing that the law and all that it calls make is longer than what came in: it says more and counts as full. Else prove '..UptoSaid'. A law counts once. -/
mutual
def uptoBulk {H : Type} : DataW H → Nat
  | .lit (.string bytes) => bytes.length + 1
  | .lit _ => 1
  | .nil => 1
  | .ptr d => uptoBulk d + 1
  | .slice elems spare => uptoBulkAll elems + uptoBulkAll spare + 1
  | .agg parts => uptoBulkAll parts + 1
  | .iface _ d => uptoBulk d + 1
  | .map entries => uptoBulkEntries entries + 1
  | .held _ => 1
def uptoBulkAll {H : Type} : List (DataW H) → Nat
  | [] => 0
  | d :: r => uptoBulk d + uptoBulkAll r
def uptoBulkEntries {H : Type} : List (Lit × DataW H) → Nat
  | [] => 0
  | x :: r => uptoBulkEntry x + uptoBulkEntries r
def uptoBulkEntry {H : Type} : Lit × DataW H → Nat
  | (.string bytes, d) => bytes.length + uptoBulk d + 1
  | (_, d) => uptoBulk d + 1
 end
def uptoSmall : (H : Type) → List (DataW H) → Bool := fun _ ds => decide (uptoBulkAll ds ≤ 1048576)
def OpenSpec.upto (s : _root_.Go.ChangeSpec) : _root_.Go.OpenSpec := { _root_.Go.OpenSpec.ofChange s with cond := some uptoSmall }

/-- 'cooperagelaw2.GlobMatches', WHERE WHAT IT READS IS OF BULK AT MOST 1048576: true; the input reads as it did. -/
def globMatchesUptoRow : OpenClaim := { program := "ytijpihldeaflgaa", sum := "06ee34c0365270dcc629191d79f4b7951c19ecb0a43e13f01d589c5ba728fca7", func := "cooperage/cooperagelaw2.GlobMatches", spec := "globMatches", inPlace := ["internal/bytealg.CountString", "internal/bytealg.IndexByteString", "internal/bytealg.IndexString"], unfollowed := true, recurses := true, named := ["internal/bytealg.MaxLen"], apart := false, narrowed := true }
def GlobMatchesUptoSaid : Prop := globMatchesUptoRow.holds Try.pinned (OpenSpec.upto globMatchesSpec)

/-- 'cooperagelaw2.GlobFills', WHERE WHAT IT READS IS OF BULK AT MOST 1048576: true; the input reads as it did. -/
def globFillsUptoRow : OpenClaim := { program := "ytijpihldeaflgaa", sum := "06ee34c0365270dcc629191d79f4b7951c19ecb0a43e13f01d589c5ba728fca7", func := "cooperage/cooperagelaw2.GlobFills", spec := "globFills", inPlace := ["internal/bytealg.CountString", "internal/bytealg.IndexByteString", "internal/bytealg.IndexString"], named := ["internal/bytealg.MaxLen"], apart := false, narrowed := true }
def GlobFillsUptoSaid : Prop := globFillsUptoRow.holds Try.pinned (OpenSpec.upto globFillsSpec)

/-- 'cooperagelaw2.GlobBack', WHERE WHAT IT READS IS OF BULK AT MOST 1048576: true; the input reads as it did. -/
def globBackUptoRow : OpenClaim := { program := "ytijpihldeaflgaa", sum := "06ee34c0365270dcc629191d79f4b7951c19ecb0a43e13f01d589c5ba728fca7", func := "cooperage/cooperagelaw2.GlobBack", spec := "globBack", inPlace := ["internal/bytealg.CountString", "internal/bytealg.IndexByteString", "internal/bytealg.IndexString"], named := ["internal/bytealg.MaxLen"], apart := false, narrowed := true }
def GlobBackUptoSaid : Prop := globBackUptoRow.holds Try.pinned (OpenSpec.upto globBackSpec)

/-- 'cooperagelaw2.GlobTurns', WHERE WHAT IT READS IS OF BULK AT MOST 1048576: true; the input reads as it did. -/
def globTurnsUptoRow : OpenClaim := { program := "ytijpihldeaflgaa", sum := "06ee34c0365270dcc629191d79f4b7951c19ecb0a43e13f01d589c5ba728fca7", func := "cooperage/cooperagelaw2.GlobTurns", spec := "globTurns", inPlace := ["internal/bytealg.CountString", "internal/bytealg.IndexByteString", "internal/bytealg.IndexString"], unfollowed := true, recurses := true, named := ["internal/bytealg.MaxLen"], apart := false, narrowed := true }
def GlobTurnsUptoSaid : Prop := globTurnsUptoRow.holds Try.pinned (OpenSpec.upto globTurnsSpec)

/-- 'cooperagelaw2.GlobEnds', WHERE WHAT IT READS IS OF BULK AT MOST 1048576: true; the input reads as it did. -/
def globEndsUptoRow : OpenClaim := { program := "ytijpihldeaflgaa", sum := "06ee34c0365270dcc629191d79f4b7951c19ecb0a43e13f01d589c5ba728fca7", func := "cooperage/cooperagelaw2.GlobEnds", spec := "globEnds", inPlace := ["internal/bytealg.CountString", "internal/bytealg.IndexByteString", "internal/bytealg.IndexString"], named := ["internal/bytealg.MaxLen"], apart := false, narrowed := true }
def GlobEndsUptoSaid : Prop := globEndsUptoRow.holds Try.pinned (OpenSpec.upto globEndsSpec)

/-- 'cooperagelaw2.GlobAny', WHERE WHAT IT READS IS OF BULK AT MOST 1048576: true; the input reads as it did. -/
def globAnyUptoRow : OpenClaim := { program := "ytijpihldeaflgaa", sum := "06ee34c0365270dcc629191d79f4b7951c19ecb0a43e13f01d589c5ba728fca7", func := "cooperage/cooperagelaw2.GlobAny", spec := "globAny", inPlace := ["internal/bytealg.CountString", "internal/bytealg.IndexByteString", "internal/bytealg.IndexString"], unfollowed := true, recurses := true, named := ["internal/bytealg.MaxLen"], apart := false, narrowed := true }
def GlobAnyUptoSaid : Prop := globAnyUptoRow.holds Try.pinned (OpenSpec.upto globAnySpec)

end Rows
end Go.Proofs.Ytijpihldeaflgaa
