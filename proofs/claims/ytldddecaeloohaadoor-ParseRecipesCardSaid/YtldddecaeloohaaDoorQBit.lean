/-
  Nodes as values; what a call that makes a node tells; the words of a text. No condition.
-/
import Derived.Test.YtldddecaeloohaaDoorPC
import Derived.Test.YtldddecaeloohaaDoorPL
namespace Go.Proofs.YtldddecaeloohaaDoor
open Go.RowKit Go.Shelf
attribute [local go_sem] Oper.semAt_some

theorem below_of_eq {B : Nat} {a b : World} (h : a = b) : Below B a b := h ▸ Below.refl B a
abbrev cellsN (nd : Nd) : Array Value := #[.int .i64 nd.kind, .int .i64 nd.no, .string (txt nd.op), .string (txt nd.name), .string (txt nd.text), .string (txt nd.targets), .string (txt nd.pattern), .string (txt nd.inputs), .string (txt nd.order), .slice none 0 0]
def zeroN : Nd := ⟨0, 0, [], [], [], [], [], [], [], []⟩
/-- Behind the answer's stores. -/
def doneN (wr : World) (z : Nat) (v0 v1 v2 v3 v4 v5 v6 v7 v8 v9 : Value) : World :=
  (((((((((wr.setCell ⟨z, 0, none⟩ v0).setCell ⟨z, 1, none⟩ v1).setCell ⟨z, 2, none⟩ v2).setCell ⟨z, 3, none⟩ v3).setCell ⟨z, 4, none⟩ v4).setCell ⟨z, 5, none⟩ v5).setCell ⟨z, 6, none⟩ v6).setCell ⟨z, 7, none⟩ v7).setCell ⟨z, 8, none⟩ v8).setCell ⟨z, 9, none⟩ v9
theorem below_drewE {B : Nat} {a w : World} (h : Below B a w) : Below B a w.drew := ⟨h.os, h.tape, h.output, h.size, h.block⟩
def OnePost (r : Option Nd) (w : World) (e : Ending) (w' : World) : Prop :=
  ∃ nd, e = .returned (.tuple #[.agg (cellsN nd), .bool r.isSome]) ∧ (∀ n, r = some n → nd = n) ∧ Below w.heap.size w w'
theorem words_is (l : BS) : wordsOf l = (wordsL l).map txt := by
  unfold wordsOf wordsL
  induction pieces blankB l with
  | nil => rfl
  | cons x r ih =>
    rw [List.map_cons, List.filter_cons, List.filter_cons, ih]
    have e : isWord (txt x) = decide (x ≠ []) := by
      unfold isWord
      rw [txt_toL]
      cases x <;> rfl
    rw [e]
    split <;> rfl
theorem words_len {l x : BS} (h : x ∈ wordsL l) : x.length ≤ l.length := by
  unfold wordsL at h
  exact pieces_short blankB l x (List.mem_filter.1 h).1
theorem drewN_below' {B : Nat} {a w : World} (h : Below B a w) : Below B a w.drew := ⟨h.os, h.tape, h.output, h.size, h.block⟩
end Go.Proofs.YtldddecaeloohaaDoor
