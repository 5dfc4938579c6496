/-
  Lists that are put, one behind the other: how they lie, and what is scanned of their lines.
-/
import Derived.Maps.AppendAt
import Derived.Test.YtllkibdpjpdbbaaDoorLScanDet
import Derived.Test.YtllkibdpjpdbbaaDoorLPutDet
namespace Go.Proofs.YtllkibdpjpdbbaaDoor
open Go.RowKit Go.Shelf


theorem map_raw (xs : List ByteArray) : (rawOf xs).map txt = xs := by
  unfold rawOf
  rw [List.map_map]
  conv => rhs; rw [← List.map_id xs]
  exact List.map_congr_left fun x _ => by simp [txt_toList]
/-- The values read as the lists, in the world in which the call began. -/
def EachReads (w : World) (us : List Value) (fs : List (List ByteArray)) : Prop := us.length = fs.length ∧ ∀ (i : Nat) (l : List ByteArray), fs[i]? = some l → ∃ u, us[i]? = some u ∧ ReadsO w w.heap.size u l
theorem EachReads.snoc {w : World} {us : List Value} {fs : List (List ByteArray)} {u : Value} {l : List ByteArray} (h : EachReads w us fs) (hu : ReadsO w w.heap.size u l) : EachReads w (us ++ [u]) (fs ++ [l]) := by
  refine ⟨by rw [List.length_append, List.length_append, h.1]; rfl, fun i z hi => ?_⟩
  rcases Nat.lt_or_ge i fs.length with hlt | hge
  · rw [List.getElem?_append_left hlt] at hi
    obtain ⟨u', h1, h2⟩ := h.2 i z hi
    exact ⟨u', by rw [List.getElem?_append_left (by rw [h.1]; exact hlt)]; exact h1, h2⟩
  · rw [List.getElem?_append_right hge] at hi
    have hi0 : i - fs.length = 0 := by
      have := (List.getElem?_eq_some_iff.1 hi).1
      simp at this; omega
    rw [hi0] at hi
    cases hi
    exact ⟨u, by rw [List.getElem?_append_right (by rw [h.1]; exact hge), h.1, hi0]; rfl, hu⟩
/-- The first m of the row read as the first m of the lists. -/
theorem rows_read {w W : World} {base : Nat} {o : Option Addr} {n c : Nat} {us : List Value} {fs : List (List ByteArray)} (h : W.ownsRow base 22 1 (.slice o n c) fs.length us) (he : EachReads w us fs) (hB : Below w.heap.size w W) (m : Nat) (hm : m ≤ fs.length) :
    ReadsLL W W.heap.size (.slice o m c) (fs.take m) := by
  have hml : (fs.take m).length = m := by rw [List.length_take]; omega
  refine ⟨o, c, by rw [hml], fun i l hi => ?_⟩
  have him : i < m := by have := (List.getElem?_eq_some_iff.1 hi).1; omega
  rw [List.getElem?_take_of_lt him] at hi
  obtain ⟨u, h1, h2⟩ := he.2 i l hi
  rcases h.2 with ⟨hv, h0⟩ | ⟨g, cap, cur, hv, hb, hg, hk, hmx, hs, ht⟩
  · omega
  · cases hv
    rw [← ht, List.getElem?_take_of_lt (by omega)] at h1
    exact ⟨g, 0, u, rfl, (Array.getElem?_eq_some_iff.1 hg).1, by omega, cell_at hg (by rw [Nat.zero_add, ← Array.getElem?_toList]; exact h1), h2.below hB hB.size⟩

/-- What is scanned of lines, and of what is no line behind them. -/
theorem scan_all (fs : List (List ByteArray)) (tail : List UInt8) (hf : ∀ l ∈ fs, Fit (rawOf l)) (ht : ∀ xs r, takeOf tail ≠ .ok xs r) :
    (scanOf (linesOfAll (fs.map rawOf) ++ tail)).map (fun x => x.1.map txt) = fs ∧ endI (linesOfAll (fs.map rawOf) ++ tail) (scanOf (linesOfAll (fs.map rawOf) ++ tail)) = ((linesOfAll (fs.map rawOf)).length : Int) := by
  obtain ⟨h1, h2⟩ := scan_lines (fs.map rawOf) tail (by intro x hx; obtain ⟨l, hl, rfl⟩ := List.mem_map.1 hx; exact hf l hl) ht
  generalize scanOf (linesOfAll (fs.map rawOf) ++ tail) = sc at h1 h2
  constructor
  · have : sc.map (fun x => x.1.map txt) = (sc.map (·.1)).map (fun y => y.map txt) := by rw [List.map_map]; rfl
    rw [this, h1, List.map_map]
    conv => rhs; rw [← List.map_id fs]
    exact List.map_congr_left fun l _ => map_raw l
  · unfold endI
    cases hl : sc.getLast? with
    | none =>
      have : sc = [] := List.getLast?_eq_none_iff.1 hl
      subst this
      have h3 : fs = [] := by simpa using h1.symm
      subst h3
      simp [linesOfAll]
    | some x =>
      have := h2 x hl
      simp only [this, List.length_append]
      omega
theorem lines_snoc (fs : List (List ByteArray)) (l : List ByteArray) : linesOfAll ((fs ++ [l]).map rawOf) = linesOfAll (fs.map rawOf) ++ lineOf (rawOf l) := by simp [linesOfAll]
theorem fit_snoc {fs : List (List ByteArray)} {l : List ByteArray} (h : ∀ x ∈ fs, Fit (rawOf x)) (hl : Fit (rawOf l)) : ∀ x ∈ fs ++ [l], Fit (rawOf x) := by
  intro x hx
  rcases List.mem_append.1 hx with hx | hx
  · exact h x hx
  · simp at hx; subst hx; exact hl

end Go.Proofs.YtllkibdpjpdbbaaDoor
