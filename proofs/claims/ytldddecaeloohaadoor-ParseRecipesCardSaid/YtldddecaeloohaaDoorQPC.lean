/-
  Parse and Cut, as the walks over what they tell ask it. No condition.
-/
import Derived.Test.YtldddecaeloohaaDoorQP
namespace Go.Proofs.YtldddecaeloohaaDoor
open Go.RowKit Go.Shelf

theorem cut_told : CutC := fun v sg s w hr h1 h2 h3 => pcut_any v sg s w hr (by omega) (fun x hx => Nat.le_trans (h2 x hx) (by omega)) (by omega)
theorem name_told (s : ByteArray) (w : World) (hs : s.size ≤ maxLen) : Calls Tryd.prog 17 #[.string s] w fun e w' => e = .returned (.bool (nameB s.data.toList)) ∧ Below w.heap.size w w' :=
  (name_any s hs w).mono fun _ _ h => ⟨h.1, h.2 ▸ Below.refl _ _⟩
end Go.Proofs.YtldddecaeloohaaDoor
