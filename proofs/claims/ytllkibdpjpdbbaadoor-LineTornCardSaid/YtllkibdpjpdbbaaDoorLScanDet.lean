/-
  What Scan answers, as one answer.
-/
import Derived.Test.YtllkibdpjpdbbaaDoorLScan
namespace Go.Proofs.YtllkibdpjpdbbaaDoor
open Go.RowKit Go.Shelf

theorem scan_shape {s : ByteArray} {w : World} {e : Ending} {w' : World} (h : ScanPost s w e w') : ∃ o c, e = .returned (.tuple #[.slice o (scanOf s.data.toList).length c, .int .i64 (endI s.data.toList (scanOf s.data.toList))]) ∧ ReadsLL w' w'.heap.size (.slice o (scanOf s.data.toList).length c) ((scanOf s.data.toList).map fun x => x.1.map txt) ∧ Below w.heap.size w w' := by
  obtain ⟨hb, v, rfl, hr⟩ := h
  have hr' := hr
  obtain ⟨o, c, rfl, _⟩ := hr'
  rw [List.length_map] at hr ⊢
  exact ⟨o, c, rfl, hr, hb⟩
theorem scan_fit : ∀ (n : Nat) (s : List UInt8), s.length ≤ n → ∀ x ∈ scanOf s, Fit x.1
  | n, s, hn => by
    intro x hx
    rcases take_kinds (takeOf s) with h | h | h | ⟨xs, r, h⟩
    · rw [scan_not (by intro xs r e; rw [h] at e; cases e)] at hx; cases hx
    · rw [scan_not (by intro xs r e; rw [h] at e; cases e)] at hx; cases hx
    · rw [scan_not (by intro xs r e; rw [h] at e; cases e)] at hx; cases hx
    · have h1 := take_less h
      rw [scan_ok h] at hx
      cases n with
      | zero => omega
      | succ n =>
        rcases List.mem_cons.1 hx with rfl | hx
        · exact (take_ok h).2
        · exact scan_fit n r (by omega) x hx
theorem scan_small (s : ByteArray) (hs : s.size ≤ 1000000) : ((scanOf s.data.toList).map fun x => x.1.map txt).length ≤ maxLen ∧ ∀ l ∈ (scanOf s.data.toList).map (fun x => x.1.map txt), l.length ≤ maxLen := by
  have h1 := scan_len _ s.data.toList (Nat.le_refl _)
  rw [size_list] at h1
  refine ⟨by rw [List.length_map]; unfold maxLen; omega, fun l hl => ?_⟩
  obtain ⟨x, hx, rfl⟩ := List.mem_map.1 hl
  have := (scan_fit _ s.data.toList (Nat.le_refl _) x hx).2.1
  rw [List.length_map]; unfold maxLen; omega


end Go.Proofs.YtllkibdpjpdbbaaDoor
