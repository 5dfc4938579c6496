/-
  What a statement's walk comes to: the answer true, and nothing that lay turned.
-/
import Derived.Test.YtijpihldeaflgaaGShown
namespace Go.Proofs.Ytijpihldeaflgaa
open Go.RowKit Go.Shelf

def LawPost (w : World) (e : Ending) (w' : World) : Prop := e = .returned (.bool true) ∧ Below w.heap.size w w'
theorem law_drew {w w' : World} (h : ∃ n, w' = w.drewN n) : LawPost w (.returned (.bool true)) w' := by
  obtain ⟨n, rfl⟩ := h; exact ⟨rfl, below_drewN (Below.refl _ _) n⟩


end Go.Proofs.Ytijpihldeaflgaa
