/-
  A row of texts that came in reads as such, and reads so behind the call. Plain carrying, no condition of its own.
-/
import Derived.ChangeArms
import Derived.Deep.Slices
import Derived.SliceStrings
import Derived.ProofKit
import Derived.Carry
import Derived.OpenShut
import Derived.RangeFuncRecord
import Derived.Maps.AppendAt
import Derived.Test.YtfdlcmjjnoapfaaGreatDoorRW
import Derived.Test.YtfdlcmjjnoapfaaGreatDoorHB
namespace Go.Proofs.YtfdlcmjjnoapfaaGreatDoor
open Go.ChangeShapes Go.WideShapes Go.ChangeAt Go.RowKit

theorem cells_string : Tryz.prog.cellsOf 9 = 1 := by kernel_rfl

/-- The value v is the row of the texts xs: nil, or an array's part that holds them. -/
def RowOf (W : World) (B : Nat) (v : Value) (xs : List ByteArray) : Prop :=
  (v = .slice none 0 0 ∧ xs = []) ∨ ∃ (a : Addr) (c : Nat), v = .slice (some a) xs.length c ∧ ∀ j x, xs[j]? = some x → a.spot = none ∧ a.block < B ∧ xs.length ≤ c ∧ W.cell? ⟨a.block, a.off + j, none⟩ = some (.string x)
theorem RowOf.below {W W' : World} {B B' : Nat} {v : Value} {xs : List ByteArray} (h : RowOf W B v xs) (hb : Below B W W') (hB : B ≤ B') : RowOf W' B' v xs := by
  rcases h with h | ⟨a, c, hv, hx⟩
  · exact .inl h
  · refine .inr ⟨a, c, hv, fun j x hj => ?_⟩
    obtain ⟨h1, h2, h3, h4⟩ := hx j x hj
    exact ⟨h1, by omega, h3, (hb.cell (p := ⟨a.block, a.off + j, none⟩) h2).trans h4⟩
theorem RowOf.reads {W : World} {B : Nat} {v : Value} {xs : List ByteArray} (h : RowOf W B v xs) : ReadsO W B v xs := by
  rcases h with ⟨rfl, rfl⟩ | ⟨a, c, rfl, hx⟩
  · exact ⟨none, 0, rfl, by simp⟩
  · refine ⟨some a, c, rfl, fun j x hj => ?_⟩
    obtain ⟨h1, h2, h3, h4⟩ := hx j x hj
    obtain ⟨b, o, sp⟩ := a
    obtain rfl : sp = none := h1
    exact ⟨b, o, rfl, h2, h3, h4⟩
set_option maxRecDepth 100000 in
/-- A list of texts that came in reads as some texts, and reads so behind the call. -/
theorem open_list {H : Type} {enc : TypeId × Value → H} {W : World} {base : Nat} {v : Value} {d : DataW H} {ps : List MemPlace}
    (hv : Value.okWide Tryz.prog W .any base 22 v) (h : DataW.Trod enc Tryz.prog W 0 (fun _ => true) true 22 v d ps) (hlt : ∀ x ∈ ps, x.block < W.heap.size) :
    (∃ xs : List ByteArray, xs.length ≤ maxLen ∧ (∀ x ∈ xs, x.size ≤ maxLen) ∧ RowOf W W.heap.size v xs ∧ (xs = [] ∨ ∃ es sp : List (DataW H), d = .slice es sp ∧ es.length = xs.length)) ∧
    ∀ W', Below W.heap.size W W' → DataW.Trod enc Tryz.prog W' 0 (fun b => decide (b < W.heap.size)) true 22 v d ps := by
  refine ⟨?_, fun W' hb => Below.trod laid_out (by kernel_rfl) (of_decide_eq_true (by kernel_rfl)) h hb hlt⟩
  obtain ⟨a0, len, cap, rfl⟩ := okWide_slice Tryz.underlying22 hv
  obtain ⟨fuel, hf⟩ := h
  rcases open_strings Tryz.underlying22 Tryz.underlying9 cells_string hf with ⟨hcs, hx⟩ | ⟨a, len', cap', ss, hcs, _, hl, hm, hz, hx, hcell, hws⟩
  · simp [Value.cells] at hcs
    obtain ⟨rfl, rfl, rfl⟩ := hcs
    exact ⟨[], by simp, by simp, .inl ⟨rfl, rfl⟩, .inl rfl⟩
  · simp [Value.cells] at hcs
    obtain ⟨rfl, rfl, rfl⟩ := hcs
    simp only [Prod.mk.injEq] at hx
    obtain ⟨rfl, rfl⟩ := hx
    simp only [if_true] at hz
    have hlen : (ss.take len).length = len := by rw [List.length_take]; omega
    refine ⟨ss.take len, by omega, fun x hx => hws x (List.mem_of_mem_take hx), .inr ⟨a, cap, by rw [hlen], fun k x hk => ?_⟩, .inr ⟨_, _, rfl, by simp [strs]⟩⟩
    have hk1 : k < len := by have := (List.getElem?_eq_some_iff.1 hk).1; omega
    have hk2 : k < ss.length := by omega
    rw [List.getElem?_take_of_lt hk1, List.getElem?_eq_getElem hk2] at hk
    have hc := hcell k hk2
    obtain ⟨b, off, spot⟩ := a
    have hspot : spot = none := by simpa [Addr.add] using World.cell?_spot (hcell 0 (by omega))
    subst hspot
    refine ⟨rfl, hlt (.cell b (off + k)) (MemPlace.mem_row.2 ⟨k, hk2, by simp⟩), by omega, ?_⟩
    rw [add_plain] at hc
    rw [hc, ← Option.some.inj hk]
    simp [List.getD, List.getElem?_eq_getElem hk2]

end Go.Proofs.YtfdlcmjjnoapfaaGreatDoor
