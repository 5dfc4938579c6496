/-
  Plain words, and what the walks of layer 4 share.
-/
import Derived.RangeFuncNested
import Derived.RangeFuncBound
import Derived.RangeFuncCalls
import Derived.RangeFuncLeaves
import Derived.Shelf.Abstract
import Derived.Shelf.RegionOpen
import Derived.WalkKit
import Derived.OwnWalkIn
import Derived.TacticsInMore
import Derived.LoopNIn
import Derived.LoopIn
import Derived.WalkSpells
import Derived.Outline
import Derived.Lib.Hide
import Derived.Deep.QuietTactic
import Derived.BigQuiet
import Derived.Below
import Derived.Lib.Strings
import Derived.Lib.Bytealg
import Derived.Maps.AppendAt
import Derived.Deep.Draws
import Derived.Test.YtginlknlkbhgaaaCut
namespace Go.Proofs.Ytginlknlkbhgaaa
open Go.RowKit Go.Shelf

theorem size_list (s : ByteArray) : s.data.toList.length = s.size := by rw [Array.length_toList]; rfl
theorem txt_append (a b : List UInt8) : txt a ++ txt b = txt (a ++ b) := by
  rw [← txt_toList (txt a ++ txt b)]; simp [ByteArray.data_append, txt]
theorem extract_one (s : ByteArray) (m : Nat) (h : m < s.size) : s.extract m (m + 1) = txt [s[m]] := by
  have h' : m < s.data.toList.length := by rw [Array.length_toList]; exact h
  rw [extract_txt, List.drop_eq_getElem_cons h', show m + 1 - m = 1 by omega, List.take_succ_cons, List.take_zero, Array.getElem_toList]; rfl
theorem below_drewN {B : Nat} {a w : World} (h : Below B a w) (m : Nat) : Below B a (w.drewN m) := ⟨h.os, h.tape, h.output, h.size, h.block⟩
def LawPost (w : World) (e : Ending) (w' : World) : Prop := e = .returned (.bool true) ∧ Below w.heap.size w w'
theorem below2 {a b c : World} (h1 : Below a.heap.size a b) (h2 : Below b.heap.size b c) : Below a.heap.size a c := h1.trans (h2.mono h1.size)
theorem below3 {a b c d : World} (h1 : Below a.heap.size a b) (h2 : Below b.heap.size b c) (h3 : Below c.heap.size c d) : Below a.heap.size a d := below2 h1 (below2 h2 h3)
theorem nat_bne_t {a b : Nat} (h : a ≠ b) : (((a : Nat) : Int) != (b : Int)) = true := by simp; omega
theorem nat_bne_f {a b : Nat} (h : a = b) : (((a : Nat) : Int) != (b : Int)) = false := by simp; omega
theorem toL_inj {a b : ByteArray} (h : a.toList = b.toList) : a = b := by
  rw [Lib.toList_data, Lib.toList_data] at h
  rw [← txt_toList a, ← txt_toList b, h]
theorem str_eq (a b : ByteArray) : (a.toList == b.toList) = decide (a = b) := by
  rw [Bool.eq_iff_iff]
  simp only [beq_iff_eq, decide_eq_true_eq]
  exact ⟨toL_inj, fun h => by rw [h]⟩
theorem str_ne_f {a b : ByteArray} (h : a = b) : (!a.toList == b.toList) = false := by rw [str_eq]; simp [h]
theorem str_ne_t {a b : ByteArray} (h : a ≠ b) : (!a.toList == b.toList) = true := by rw [str_eq]; simp [h]
def allB (p : UInt8 → Bool) (l : List UInt8) : Bool := l.all p
theorem all_take {p : UInt8 → Bool} {l : List UInt8} {k : Nat} (h : allB p (l.take k) = true) (hk : k < l.length) (hc : p l[k] = true) : allB p (l.take (k + 1)) = true := by
  unfold allB at h ⊢
  rw [List.take_succ_eq_append_getElem hk, List.all_append, h]; simp [hc]
theorem all_not {p : UInt8 → Bool} {l : List UInt8} {k : Nat} (hk : k < l.length) (hc : p l[k] = false) : allB p l = false := by
  unfold allB
  rw [List.all_eq_false]; exact ⟨l[k], List.getElem_mem hk, by simp [hc]⟩
theorem below_drew {B : Nat} {a w : World} (h : Below B a w) : Below B a w.drew := ⟨h.os, h.tape, h.output, h.size, h.block⟩
theorem ownsRow_below {W W' : World} {base : Nat} {e : TypeId} {size : Nat} {v : Value} {n : Nat} {xs : List Value} (ho : W.ownsRow base e size v n xs) (hb : Below W.heap.size W W') : W'.ownsRow base e size v n xs := by
  refine ⟨ho.1, ?_⟩
  rcases ho.2 with hn | ⟨g, cap, cur, rfl, h1, hgg, rest⟩
  · exact .inl hn
  · refine .inr ⟨g, cap, cur, rfl, h1, ?_, rest⟩
    rw [hb.block g (Array.getElem?_eq_some_iff.1 hgg).1]
    exact hgg
theorem still_call {P : Program} {f : FuncId} {args : Array Value} {w : World} {m : Nat} {v : Value} (h : Calls P f args (w.drewN m) fun e w' => e = .returned v ∧ w.drewN m = w') :
    Calls P f args (w.drewN m) fun e w' => e = .returned v ∧ ∃ j, w' = w.drewN j := h.mono fun _ _ h => ⟨h.1, m, h.2.symm⟩

end Go.Proofs.Ytginlknlkbhgaaa
