/-
  One assignment that came in as a struct reads as such, and reads so behind the call. Plain carrying, no condition of its own.
-/
import Derived.Test.YtbngoodjgijmgaaGreatDoorVArg
namespace Go.Proofs.YtbngoodjgijmgaaGreatDoor
open Go.ChangeShapes Go.WideShapes Go.ChangeAt Go.RowKit

abbrev aggA (x : BT × BT × BT) : Value := .agg #[.string (txt x.1), .string (txt x.2.1), .string (txt x.2.2)]
set_option maxRecDepth 100000 in
theorem open_act {H : Type} {enc : TypeId × Value → H} {W : World} {base : Nat} {v : Value} {d : DataW H} {ps : List MemPlace}
    (hv : Value.okWide Tryz.prog W .any base 46 v) (h : DataW.Trod enc Tryz.prog W 0 (fun _ => true) true 46 v d ps) (hlt : ∀ x ∈ ps, x.block < W.heap.size) :
    (∃ x : BT × BT × BT, v = aggA x ∧ x.1.length ≤ maxLen ∧ x.2.1.length ≤ maxLen ∧ x.2.2.length ≤ maxLen) ∧
    ∀ W', Below W.heap.size W W' → DataW.Trod enc Tryz.prog W' 0 (fun b => decide (b < W.heap.size)) true 46 v d ps := by
  refine ⟨?_, fun W' hb => Below.trod laid_out (by kernel_rfl) (of_decide_eq_true (by kernel_rfl)) h hb hlt⟩
  have act_cells : Tryz.prog.cellsOf 46 = 3 := by kernel_rfl
  obtain ⟨cs, rfl, hsz⟩ := okWide_struct Tryz.underlying46 hv
  rw [act_cells] at hsz
  obtain ⟨fuel, hf⟩ := h
  have hf' : DataW.trod enc Tryz.prog W 0 (fun _ => true) true fuel 46 cs.toList = some (d, ps) := hf
  clear hf
  obtain ⟨xs, m, _, _, _, hlen, hf⟩ := DataW.trod_struct Tryz.underlying46 hf'
  obtain ⟨y0, y1, y2, rfl⟩ : ∃ y0 y1 y2, xs = [y0, y1, y2] := by
    match xs, hlen with
    | [y0, y1, y2], _ => exact ⟨y0, y1, y2, rfl⟩
  obtain ⟨c0, c1, c2, rfl⟩ : ∃ c0 c1 c2, cs = #[c0, c1, c2] := by
    match cs, hsz with
    | ⟨[c0, c1, c2]⟩, _ => exact ⟨c0, c1, c2, rfl⟩
  have e3 : Tryz.prog.cellsOf 9 = 1 := by kernel_rfl
  have h0 := hf 0 _ rfl
  have h1 := hf 1 _ rfl
  have h2 := hf 2 _ rfl
  simp only [List.getElem?_cons_zero, List.getElem?_cons_succ] at h0 h1 h2
  obtain ⟨s0, q0, _, w0⟩ := DataW.trod_string Tryz.underlying9 h0
  obtain ⟨s1, q1, _, w1⟩ := DataW.trod_string Tryz.underlying9 h1
  obtain ⟨s2, q2, _, w2⟩ := DataW.trod_string Tryz.underlying9 h2
  cases q0; cases q1; cases q2
  refine ⟨(s0.data.toList, s1.data.toList, s2.data.toList), ?_, by rw [size_list]; exact w0, by rw [size_list]; exact w1, by rw [size_list]; exact w2⟩
  unfold aggA
  rw [txt_toList, txt_toList, txt_toList]
end Go.Proofs.YtbngoodjgijmgaaGreatDoor
