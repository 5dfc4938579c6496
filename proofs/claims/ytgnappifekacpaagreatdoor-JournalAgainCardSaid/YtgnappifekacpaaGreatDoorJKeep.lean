/-
  What JournalKeeps asks, in plain words.
-/
import Derived.Deep.QuietTactic
import Derived.BigQuiet
import Derived.Test.YtgnappifekacpaaGreatDoorJRow
namespace Go.Proofs.YtgnappifekacpaaGreatDoor
open Go.RowKit Go.Shelf Go.Maps

theorem Keys.mono {Ns Ms : List BS} {l : Fs} (h : Keys Ns l) (hs : ∀ x ∈ Ns, x ∈ Ms) : Keys Ms l := fun y hy => hs _ (h y hy)
theorem logs_beside {l : Fs} {s : BS} (h : Logs LGL l s) : look l (besideL LGL) = none := by
  refine look_none.2 fun y hy e => ?_
  have := h.keys y hy
  simp only [List.mem_singleton] at this
  exact beside_ne LGL (this.symm.trans e)
/-- A tree whose one file is the journal is opened. -/
theorem logs_open {S : St} {n : Nat} {s : BS} (hg : Good 1048576 n S) (h : Logs LGL S.now s) (hs : s.length ≤ 273000) :
    (jOpen 1048576 S LGL).1 = listsOf s ∧ (jOpen 1048576 S LGL).2.1 = 0 ∧ (jOpen 1048576 S LGL).2.2.pend = [] ∧ textOf (jOpen 1048576 S LGL).2.2.now LGL = linesOfAll (listsOf s) ∧ (∀ q, (textOf S.now q).length ≤ 1000000) ∧
      Keys LG2 (jOpen 1048576 S LGL).2.2.now ∧ look (jOpen 1048576 S LGL).2.2.now (besideL LGL) = none := by
  have hk : Keys LG2 S.now := h.keys.mono (by intro x hx; simp at hx; rw [hx]; exact lg_in1)
  have hb := text_none (logs_beside h)
  have ht := h.text
  have hu := lg_used h.srt hk
  rw [hb, ht] at hu
  simp only [List.length_nil] at hu
  have o := open_ok hg hk lg_calm lg_len lg_in1 lg_in2 lg_path.1 lg_path.2 (by rw [ht]; omega) (by rw [ht]; omega)
  rw [← ht]
  exact ⟨o.lists, o.code, o.pend, o.text, short_all hu (by omega), o.keys, o.beside⟩

/-- What JournalKeeps asks, in plain words. -/
theorem keeps_law {S : St} {n k : Nat} {ins : LL} (many part : Int) (hg : Good 1048576 n S) (hK : Kept6 LGL S ins k) (hl : ins.length ≤ 20) {S5 S6 : St} (h5 : S5 = opC S many part) (h6 : S6 = (jOpen 1048576 S5 LGL).2.2) :
    ∃ m, m ≤ ins.length ∧ k ≤ m ∧ min (ins.length : Int) ((k : Int) + max 0 many) ≤ (m : Int) ∧ (jOpen 1048576 S5 LGL).1 = ins.take m ∧ (jOpen 1048576 S5 LGL).2.1 = 0 ∧ S6.pend = [] ∧
      listsOf (textOf S6.now LGL) = ins.take m ∧ wholeB (textOf S6.now LGL) = true ∧ (∀ q, (textOf S5.now q).length ≤ 1000000) ∧ (textOf S6.now LGL).length ≤ 1000000 := by
  obtain ⟨m, tail, k1, k2, k3, k4, k5, k6⟩ := hK.crash many part
  rw [← h5] at k1
  have hf : ∀ x ∈ ins.take m, Fit x := fun x hx => hK.fit x (List.mem_of_mem_take hx)
  have hls := lists_of (ins.take m) tail hf k5
  have hlb := lines_bound hf
  have hll : (ins.take m).length ≤ 20 := by rw [List.length_take]; omega
  have hsl : (linesOfAll (ins.take m) ++ tail).length ≤ 273000 := by rw [List.length_append]; omega
  have g5 : Good 1048576 n S5 := by rw [h5]; exact hg.opC _ _
  obtain ⟨o1, o2, o3, o4, o5, o6, o7⟩ := logs_open g5 k1 hsl
  rw [hls] at o1 o4
  rw [← h6] at o3 o4
  have hLL := lists_lines (ins.take m) hf
  exact ⟨m, k2, k3, k4, o1, o2, o3, by rw [o4]; exact hLL.1, by rw [o4]; exact hLL.2, o5, by rw [o4]; omega⟩

end Go.Proofs.YtgnappifekacpaaGreatDoor
