/-
  Small things that the walks share: texts told apart, a list that reads as some texts. No condition.
-/
import Derived.WalkKit
import Derived.Below
import Derived.Deep.QuietTactic
import Derived.BigQuiet
import Derived.Lib.Hide
import Derived.Outline
import Derived.Maps.AppendAt
import Derived.RangeFuncNested
import Derived.WalkSpells
import Derived.Shelf.Abstract
import Derived.Deep.Draws
import Derived.Deep.LoopGhost
import Derived.Test.YtijpihldeaflgaaGMath
import Derived.Test.YtijpihldeaflgaaGShelf
import Derived.Test.YtijpihldeaflgaaProg
namespace Go.Proofs.Ytijpihldeaflgaa
open Go.RowKit Go.Shelf

theorem ret_bool {a b : Bool} (h : a = b) : Ending.returned (.bool a) = .returned (.bool b) := by rw [h]
theorem nat_beq (a b : Nat) : (((a : Nat) : Int) == (b : Int)) = decide (a = b) := by
  rw [Bool.eq_iff_iff]; simp; omega
theorem nat_bne_t {a b : Nat} (h : a ≠ b) : (((a : Nat) : Int) != (b : Int)) = true := by simp; omega
theorem nat_bne_f {a b : Nat} (h : a = b) : (((a : Nat) : Int) != (b : Int)) = false := by simp; omega
theorem toL_inj {a b : ByteArray} (h : a.toList = b.toList) : a = b := by
  rw [Lib.toList_data, Lib.toList_data] at h
  rw [← txt_toList a, ← txt_toList b, h]
theorem str_eq (a b : ByteArray) : (a.toList == b.toList) = decide (a = b) := by
  rw [Bool.eq_iff_iff]
  simp only [beq_iff_eq, decide_eq_true_eq]
  exact ⟨toL_inj, fun h => by rw [h]⟩
theorem str_ne_f {a b : ByteArray} (h : a = b) : (!a.toList == b.toList) = false := by rw [str_eq]; simp [h]
theorem str_ne_t {a b : ByteArray} (h : a ≠ b) : (!a.toList == b.toList) = true := by rw [str_eq]; simp [h]
theorem size_list (s : ByteArray) : s.data.toList.length = s.size := by rw [Array.length_toList]; rfl
theorem txt_append (a b : List UInt8) : txt a ++ txt b = txt (a ++ b) := by
  rw [← txt_toList (txt a ++ txt b)]; simp [ByteArray.data_append, txt]
theorem below_drewN {B : Nat} {a w : World} (h : Below B a w) (m : Nat) : Below B a (w.drewN m) := ⟨h.os, h.tape, h.output, h.size, h.block⟩

/-- The value v reads as the texts xs, out of blocks below B; an empty list may lie anywhere. -/
def ReadsO (W : World) (B : Nat) (v : Value) (xs : List ByteArray) : Prop :=
  ∃ o c, v = .slice o xs.length c ∧ ∀ j x, xs[j]? = some x → ∃ b f, o = some ⟨b, f, none⟩ ∧ b < B ∧ xs.length ≤ c ∧ W.cell? ⟨b, f + j, none⟩ = some (.string x)

theorem ReadsO.below {W W' : World} {B B' : Nat} {v : Value} {xs : List ByteArray} (h : ReadsO W B v xs) (hb : Below B W W') (hB : B ≤ B') : ReadsO W' B' v xs := by
  obtain ⟨o, c, hv, hx⟩ := h
  refine ⟨o, c, hv, fun j x hj => ?_⟩
  obtain ⟨b, f, h1, h2, h3, h4⟩ := hx j x hj
  exact ⟨b, f, h1, by omega, h3, (hb.cell (p := ⟨b, f + j, none⟩) h2).trans h4⟩
theorem ReadsO.of_owns {W : World} {base : Nat} {v : Value} {xs : List ByteArray} (h : W.ownsRow base 9 1 v xs.length (xs.map Value.string)) : ReadsO W W.heap.size v xs := by
  rcases h.2 with ⟨hv, hn⟩ | ⟨g, cap, cur, hv, hb, hg, hk, hm, hs, ht⟩
  · have : xs = [] := List.eq_nil_of_length_eq_zero hn
    subst this
    exact ⟨none, 0, hv, by simp⟩
  · refine ⟨some ⟨g, 0, none⟩, cap, hv, fun j x hj => ⟨g, 0, rfl, (Array.getElem?_eq_some_iff.1 hg).1, hk, ?_⟩⟩
    have hj' : j < xs.length := (List.getElem?_eq_some_iff.1 hj).1
    have e1 : (xs.map Value.string)[j]? = some (.string x) := by rw [List.getElem?_map, hj]; rfl
    rw [← ht, List.getElem?_take_of_lt (by omega)] at e1
    have e2 : cur[j]? = some (.string x) := by rw [← Array.getElem?_toList]; exact e1
    simp [World.cell?, hg, e2]
theorem built_readsO (W : World) (xs : List ByteArray) : ReadsO (W.alloc (.cells (xs.map Value.string).toArray 9)) (W.heap.size + 1) (.slice (some ⟨W.heap.size, 0, none⟩) xs.length xs.length) xs := by
  refine ⟨some ⟨W.heap.size, 0, none⟩, xs.length, rfl, fun j x hj => ⟨W.heap.size, 0, rfl, by omega, Nat.le_refl _, ?_⟩⟩
  have e : (W.alloc (.cells (xs.map Value.string).toArray 9)).heap[W.heap.size]? = some (.cells (xs.map Value.string).toArray 9) := World.alloc_heap_new W _
  unfold World.cell?
  simp only [e]
  simp [hj]

end Go.Proofs.Ytijpihldeaflgaa
