/-
  What Put answers, as one answer.
-/
import Derived.Test.YtllkibdpjpdbbaaDoorLShown
namespace Go.Proofs.YtllkibdpjpdbbaaDoor
open Go.RowKit Go.Shelf

/-- What Put answers, as one text and one number. -/
theorem put_det (xs : List (List UInt8)) : ∃ (t : ByteArray) (c : Int), (∀ e, PutIs xs e → e = .returned (.tuple #[.string t, .int .i64 c])) ∧ (Fit xs → t = txt (lineOf xs) ∧ c = 0) ∧ (¬ Fit xs → t = ⟨#[]⟩ ∧ (xs = [] → c = 1) ∧ (xs ≠ [] → c = 3)) := by
  by_cases hf : Fit xs
  · exact ⟨_, _, fun e h => put_fit h hf, fun _ => ⟨rfl, rfl⟩, fun h => absurd hf h⟩
  · by_cases h0 : xs = []
    · refine ⟨⟨#[]⟩, 1, fun e h => ?_, fun h => absurd h hf, fun _ => ⟨rfl, fun _ => rfl, fun h => absurd h0 h⟩⟩
      rcases h with ⟨h, _⟩ | ⟨_, h⟩ | ⟨h, _⟩
      · exact absurd h hf
      · exact h
      · exact absurd h0 h
    · refine ⟨⟨#[]⟩, 3, fun e h => ?_, fun h => absurd h hf, fun _ => ⟨rfl, fun h => absurd h h0, fun _ => rfl⟩⟩
      rcases h with ⟨h, _⟩ | ⟨h, _⟩ | ⟨_, _, h⟩
      · exact absurd h hf
      · exact absurd h h0
      · exact h


end Go.Proofs.YtllkibdpjpdbbaaDoor
