/-
  A row of variables, or one, that came in reads as such, and reads so behind the call. Plain carrying, no condition of its own.
-/
import Derived.ChangeArms
import Derived.Deep.Slices
import Derived.SliceStrings
import Derived.ProofKit
import Derived.Carry
import Derived.OpenShut
import Derived.RangeFuncRecord
import Derived.Maps.AppendAt
import Derived.Test.YtbngoodjgijmgaaGreatDoorRW
import Derived.Test.YtbngoodjgijmgaaGreatDoorGH
namespace Go.Proofs.YtbngoodjgijmgaaGreatDoor
open Go.ChangeShapes Go.WideShapes Go.ChangeAt Go.RowKit

theorem var_cells : Tryz.prog.cellsOf 36 = 3 := by kernel_rfl
theorem cells_at {W : World} {x : Addr} {n : Nat} {cs : List Value} (h : W.cells? 0 x n = some cs) : cs.length = n ∧ ∀ i, i < n → W.cell? (x.add i) = cs[i]? := by
  unfold World.cells? at h
  split at h
  · exact ⟨by simpa using mapM_some_length h, fun i hi => mapM_some_get h i i (by simp [hi])⟩
  · cases h

/-- What one line reads as. -/
def VarAt (W : World) (x : Addr) (a : VarT) : Prop := ∀ i, i < 3 → W.cell? (x.add i) = (encV a)[i]?
set_option maxRecDepth 100000 in
theorem var_open {H : Type} {enc : TypeId × Value → H} {W : World} {n : Nat} {x : Addr} {cs : List Value} {y : DataW H × List MemPlace} (hc : W.cells? 0 x 3 = some cs) (h : DataW.trod enc Tryz.prog W 0 (fun _ => true) true n 36 cs = some y) : ∃ a, VarAt W x a ∧ a.1.length ≤ maxLen ∧ a.2.1.length ≤ maxLen := by
  obtain ⟨hl, hcell⟩ := cells_at hc
  obtain ⟨xs, m, _, _, _, hlen, hf⟩ := DataW.trod_struct Tryz.underlying36 h
  obtain ⟨y0, y1, y2, rfl⟩ : ∃ y0 y1 y2, xs = [y0, y1, y2] := by
    match xs, hlen with
    | [y0, y1, y2], _ => exact ⟨y0, y1, y2, rfl⟩
  obtain ⟨c0, c1, c2, rfl⟩ : ∃ c0 c1 c2, cs = [c0, c1, c2] := by
    match cs, hl with
    | [c0, c1, c2], _ => exact ⟨c0, c1, c2, rfl⟩
  have e2 : Tryz.prog.cellsOf 4 = 1 := by kernel_rfl
  have e3 : Tryz.prog.cellsOf 9 = 1 := by kernel_rfl
  have h0 := hf 0 _ rfl
  have h1 := hf 1 _ rfl
  have h2 := hf 2 _ rfl
  simp only [List.getElem?_cons_zero, List.getElem?_cons_succ] at h0 h1 h2
  obtain ⟨s0, q0, _, w0⟩ := DataW.trod_string Tryz.underlying9 h0
  obtain ⟨s1, q1, _, w1⟩ := DataW.trod_string Tryz.underlying9 h1
  obtain ⟨b2, q2, _⟩ := DataW.trod_bool Tryz.underlying4 h2
  cases q0; cases q1; cases q2
  refine ⟨(s0.data.toList, s1.data.toList, b2), ?_, by rw [size_list]; exact w0, by rw [size_list]; exact w1⟩
  unfold VarAt encV
  rw [txt_toList, txt_toList]
  exact hcell
set_option maxRecDepth 100000 in
/-- A list of lines that came in reads as some lines, and reads so behind the call. -/
theorem open_vars {H : Type} {enc : TypeId × Value → H} {W : World} {base : Nat} {v : Value} {d : DataW H} {ps : List MemPlace}
    (hv : Value.okWide Tryz.prog W .any base 22 v) (h : DataW.Trod enc Tryz.prog W 0 (fun _ => true) true 22 v d ps) (hlt : ∀ x ∈ ps, x.block < W.heap.size) :
    (∃ (o : Option Addr) (n c : Nat) (al : List VarT), v = .slice o n c ∧ n = al.length ∧ InV W o c al ∧ ∀ x ∈ al, x.1.length ≤ maxLen ∧ x.2.1.length ≤ maxLen) ∧
    ∀ W', Below W.heap.size W W' → DataW.Trod enc Tryz.prog W' 0 (fun b => decide (b < W.heap.size)) true 22 v d ps := by
  refine ⟨?_, fun W' hb => Below.trod laid_out (by kernel_rfl) (of_decide_eq_true (by kernel_rfl)) h hb hlt⟩
  obtain ⟨a0, len, cap, rfl⟩ := okWide_slice Tryz.underlying22 hv
  obtain ⟨fuel, hf⟩ := h
  rcases DataW.trod_slice Tryz.underlying22 hf with ⟨hcs, hx⟩ | ⟨a, len', cap', elems, rest, n, _, hcs, hx, _, hl, hm, hlen, hel, hsp, _⟩
  · simp [Value.cells] at hcs
    obtain ⟨rfl, rfl, rfl⟩ := hcs
    exact ⟨none, 0, 0, [], rfl, rfl, fun j x hj => by simp at hj, by simp⟩
  · simp [Value.cells] at hcs
    obtain ⟨rfl, rfl, rfl⟩ := hcs
    simp only [Prod.mk.injEq] at hx
    obtain ⟨rfl, rfl⟩ := hx
    have hrow : ∀ j, j < (elems.length + rest.length) * Tryz.prog.cellsOf 36 → a.block < W.heap.size := by
      intro j hj
      exact hlt (.cell a.block (a.off + j)) (List.mem_append_left _ (MemPlace.mem_row.2 ⟨j, hj, rfl⟩))
    have each : ∀ i, i < len → ∃ x, VarAt W (a.add (i * 3)) x ∧ x.1.length ≤ maxLen ∧ x.2.1.length ≤ maxLen := by
      intro i hi
      have hy := hel i hi
      have hie : i < elems.length := by omega
      rw [List.getElem?_eq_getElem hie, var_cells, Option.bind_eq_some_iff] at hy
      obtain ⟨cs, hc1, hc2⟩ := hy
      exact var_open hc1 hc2
    obtain ⟨f, hf⟩ : ∃ f : Nat → VarT, ∀ i, i < len → VarAt W (a.add (i * 3)) (f i) ∧ (f i).1.length ≤ maxLen ∧ (f i).2.1.length ≤ maxLen := by
      classical
      exact ⟨fun i => if h : i < len then Classical.choose (each i h) else ([], [], false), fun i hi => by simp only [hi, dif_pos]; exact Classical.choose_spec (each i hi)⟩
    have hel2 : ∀ i x, ((List.range len).map f)[i]? = some x → i < len ∧ x = f i := by
      intro i x hi
      rw [List.getElem?_map] at hi
      have hil : i < len := by
        cases hr : (List.range len)[i]? with
        | none => rw [hr] at hi; cases hi
        | some j => have := (List.getElem?_eq_some_iff.1 hr).1; simpa using this
      rw [List.getElem?_range hil] at hi
      cases hi
      exact ⟨hil, rfl⟩
    refine ⟨some a, len, cap, (List.range len).map f, rfl, by simp, ?_, fun x hx => ?_⟩
    · intro i x hi
      obtain ⟨hil, rfl⟩ := hel2 i x hi
      have h1 := (hf i hil).1
      obtain ⟨b, off, spot⟩ := a
      have h0 := (hf 0 (by omega)).1 0 (by omega)
      have hspot : spot = none := by
        rw [show (encV (f 0))[0]? = some (.string (txt (f 0).1)) from rfl] at h0
        simpa [Addr.add] using World.cell?_spot h0
      subst hspot
      refine ⟨b, off, rfl, hrow 0 (by rw [var_cells, hlen]; omega), by simp; omega, fun k u hk => ?_⟩
      have hk3 : k < 3 := by
        have := (List.getElem?_eq_some_iff.1 hk).1
        simpa [encV] using this
      have g := h1 k hk3
      rw [add_plain, add_plain] at g
      rw [g, hk]
    · obtain ⟨i, hi⟩ := List.getElem?_of_mem hx
      obtain ⟨hil, rfl⟩ := hel2 i x hi
      exact (hf i hil).2
end Go.Proofs.YtbngoodjgijmgaaGreatDoor
