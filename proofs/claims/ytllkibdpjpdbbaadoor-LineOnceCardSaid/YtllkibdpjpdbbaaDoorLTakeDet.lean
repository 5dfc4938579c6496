/-
  What Take answers, as one answer.
-/
import Derived.Test.YtllkibdpjpdbbaaDoorLTake
import Derived.Test.YtllkibdpjpdbbaaDoorRowL
namespace Go.Proofs.YtllkibdpjpdbbaaDoor
open Go.RowKit Go.Shelf


theorem err_code0 {l : List UInt8} {c : Int} (h : TakeErr l c) : (c != 0) = true ∧ (∀ xs r, takeOf l ≠ .ok xs r) := by
  rcases h with ⟨h, rfl⟩ | ⟨h, rfl⟩ | ⟨h, rfl⟩
  · exact ⟨by decide, fun xs r e => by rw [h] at e; cases e⟩
  · exact ⟨by decide, fun xs r e => by rw [h] at e; cases e⟩
  · exact ⟨by decide, fun xs r e => by rw [h] at e; cases e⟩
theorem err_det {l : List UInt8} {c c' : Int} (h : TakeErr l c) (h' : TakeErr l c') : c = c' := by
  rcases h with ⟨h, rfl⟩ | ⟨h, rfl⟩ | ⟨h, rfl⟩ <;> rcases h' with ⟨h', rfl⟩ | ⟨h', rfl⟩ | ⟨h', rfl⟩ <;> first | rfl | (rw [h] at h'; cases h')
/-- What Take answers, as a list, one text and one number. -/
theorem take_det (l : List UInt8) : ∃ (xs : List ByteArray) (t : ByteArray) (c : Int), (∀ w e w', TakePost l w e w' → ∃ o cp, e = .returned (.tuple #[.slice o xs.length cp, .string t, .int .i64 c]) ∧ ReadsO w' w'.heap.size (.slice o xs.length cp) xs ∧ Below w.heap.size w w') ∧
    ((∃ ys r, takeOf l = .ok ys r ∧ xs = ys.map txt ∧ t = txt r ∧ c = 0) ∨ (TakeErr l c ∧ xs = [] ∧ t = ⟨#[]⟩)) := by
  have herr : ∀ c, TakeErr l c → ∃ (xs : List ByteArray) (t : ByteArray) (c : Int), (∀ w e w', TakePost l w e w' → ∃ o cp, e = .returned (.tuple #[.slice o xs.length cp, .string t, .int .i64 c]) ∧ ReadsO w' w'.heap.size (.slice o xs.length cp) xs ∧ Below w.heap.size w w') ∧
      ((∃ ys r, takeOf l = .ok ys r ∧ xs = ys.map txt ∧ t = txt r ∧ c = 0) ∨ (TakeErr l c ∧ xs = [] ∧ t = ⟨#[]⟩)) := by
    intro c hc
    refine ⟨[], ⟨#[]⟩, c, fun w e w' h => ?_, .inr ⟨hc, rfl, rfl⟩⟩
    obtain ⟨hb, (⟨c', hc', rfl⟩ | ⟨xs, r, v, ht, _⟩)⟩ := h
    · rw [err_det hc hc']
      exact ⟨none, 0, rfl, ⟨none, 0, rfl, by simp⟩, hb⟩
    · exact absurd ht ((err_code0 hc).2 xs r)
  rcases take_kinds (takeOf l) with ht | ht | ht | ⟨ys, r, ht⟩
  · exact herr 14 (.inl ⟨ht, rfl⟩)
  · exact herr 2 (.inr (.inl ⟨ht, rfl⟩))
  · exact herr 13 (.inr (.inr ⟨ht, rfl⟩))
  · refine ⟨ys.map txt, txt r, 0, fun w e w' h => ?_, .inl ⟨ys, r, ht, rfl, rfl, rfl⟩⟩
    obtain ⟨hb, (⟨c', hc', rfl⟩ | ⟨xs, r', v, ht', rfl, hown⟩)⟩ := h
    · exact absurd ht ((err_code0 hc').2 ys r)
    · rw [ht] at ht'
      cases ht'
      obtain ⟨o, cp, rfl⟩ := ownsRow_shape hown
      refine ⟨o, cp, by rw [List.length_map], ?_, hb⟩
      have := ReadsO.of_owns (xs := ys.map txt) (by rw [List.length_map]; exact hown)
      rw [List.length_map]; exact this

end Go.Proofs.YtllkibdpjpdbbaaDoor
