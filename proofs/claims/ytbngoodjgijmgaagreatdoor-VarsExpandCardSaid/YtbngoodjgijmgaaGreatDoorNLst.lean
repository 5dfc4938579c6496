/-
  What list tells: what is said of it, and small laws. No condition.
-/
import Derived.Test.YtbngoodjgijmgaaGreatDoorNTold
import Derived.Test.YtbngoodjgijmgaaGreatDoorNCls
namespace Go.Proofs.YtbngoodjgijmgaaGreatDoor
open Go.RowKit Go.Shelf Go.Sort
def ListPost (w : World) (l : List BT) (e : Ending) (w' : World) : Prop := ∃ gf lb, e = .returned (.func (.func gf) #[] lb) ∧ ToldB w' gf lb (l.map txt) ∧ Below w.heap.size w w'
theorem ne_filter (l : List BT) : (l.map txt).filter isWord = (neT l).map txt := by
  unfold neT
  rw [List.filter_map]
  congr 1
  refine List.filter_congr fun x _ => ?_
  simp only [Function.comp, isWord, txt_toL]
  cases x <;> rfl
theorem reads_part {W : World} {B : Nat} {o : Option Addr} {n c : Nat} {l : List BT} (h : ReadsO W B (.slice o n c) (l.map txt)) (i j : Nat) (hij : i ≤ j) (hj : j ≤ n) :
    ReadsO W B (.slice (o.map fun a => a.add i) (j - i) (c - i)) (((l.take j).drop i).map txt) := by
  obtain ⟨o', c', hv, hx⟩ := h
  cases hv
  have hn : (l.map txt).length = l.length := by simp
  rw [hn] at hj
  refine ⟨_, _, by rw [List.length_map, List.length_drop, List.length_take, Nat.min_eq_left hj], fun k x hk => ?_⟩
  have hkl : k < j - i := by
    have := (List.getElem?_eq_some_iff.1 hk).1
    rw [List.length_map, List.length_drop, List.length_take] at this
    omega
  have hk' : (l.map txt)[i + k]? = some x := by
    rw [List.getElem?_map, List.getElem?_drop, List.getElem?_take_of_lt (by omega)] at hk
    rw [List.getElem?_map]
    exact hk
  obtain ⟨b, f, rfl, hlt, hc, hcell⟩ := hx (i + k) x hk'
  refine ⟨b, f + i, by simp [Addr.add_lit], hlt, ?_, by rw [Nat.add_assoc]; exact hcell⟩
  rw [List.length_map, List.length_drop, List.length_take]
  rw [hn] at hc
  omega
theorem reads_front {W : World} {B : Nat} {o : Option Addr} {n c : Nat} {l : List BT} (h : ReadsO W B (.slice o n c) (l.map txt)) (j : Nat) (hj : j ≤ n) :
    ReadsO W B (.slice o j c) ((l.take j).map txt) := by
  have := reads_part h 0 j (Nat.zero_le _) hj
  rw [List.drop_zero, Nat.sub_zero, Nat.sub_zero] at this
  have e : (o.map fun a => a.add 0) = o := by cases o with
    | none => rfl
    | some a => cases a with
      | mk bb ff pp => cases pp <;> simp [Addr.add]
  rw [e] at this
  exact this
theorem owns_cap {W : World} {base : Nat} {o : Option Addr} {n c : Nat} {l : List BT} (h : W.ownsRow base 9 1 (.slice o n c) l.length (l.map encStr)) : n ≤ c := by
  rcases h.2 with ⟨hv, _⟩ | ⟨g, cap, cur, hv, _, _, h1, _⟩
  · cases hv; exact Nat.le_refl _
  · cases hv; exact h1
end Go.Proofs.YtbngoodjgijmgaaGreatDoor
