/-
  From a call that answers true and turns nothing that lay to the row's last word. Plain carrying, no condition of its own.
-/
import Derived.ProofKit
import Derived.Carry
import Derived.OpenShut
import Derived.Test.YtldddecaeloohaaDoorRow
namespace Go.Proofs.YtldddecaeloohaaDoor
open Go.ChangeShapes Go.WideShapes Go.ChangeAt Go.RowKit

theorem post_true_at {H : Type} {enc : TypeId × Value → H} {P : Program} {f : Func} {s : ChangeSpec} {W W' : World} {args : Array Value} {ds : List (DataW H)} {before : List MemPlace} {handsOn fresh : Bool} {tb : TypeId}
    (hW : DataW.Whole enc P f.params.toList s.vars false W args.toList ds [] before) (hvs : s.vars = []) (hrt : f.resultTypes = #[tb]) (htb : P.underlying tb = some .bool)
    (hfn : s.fn H (ds ++ []) = { results := [.lit (.bool true)], args := ds })
    (hargs : DataW.TrodAll enc P W' 0 (fun b => decide (b < W.heap.size)) true f.params.toList args.toList ds before)
    (hb : Below W.heap.size W W') : s.post enc P f false fresh handsOn false W args (.bool true) W' := by
  refine ⟨ds, [], before, [], before, [], hW, ?_, ?_, ?_, World.keptBut_mono (fun p hp => ⟨hp, .inr (.inl hp)⟩) (hb.frame (· ∈ before)), fun h => by cases h⟩
  · rw [hfn, hrt]; exact trodAll_mk1 (shut_bool htb true)
  · rw [hfn]; exact hargs
  · rw [hfn, hvs]; exact rfl

end Go.Proofs.YtldddecaeloohaaDoor
