/-
  What text.isNewline answers. For every byte, no condition.
-/
import Derived.WalkKit
import Derived.Lib.Bytealg
import Derived.Lib.Hide
import Derived.Outline
import Derived.Test.YtldddecaeloohaaDoorProg
import Derived.Test.YtldddecaeloohaaDoorEP
namespace Go.Proofs.YtldddecaeloohaaDoor
open Go.RowKit

theorem ret_bool {a b : Bool} (h : a = b) : Ending.returned (.bool a) = .returned (.bool b) := by rw [h]

theorem nat_beq (a b : Nat) : (((a : Nat) : Int) == (b : Int)) = decide (a = b) := by
  rw [Bool.eq_iff_iff]; simp; omega

set_option maxHeartbeats 400000 in
theorem isNewline_any (c : UInt8) (w : World) : Calls Tryd.prog 40 #[.int .u8 (c.toNat : Int)] w fun e w' => e = .returned (.bool (nlB c)) ∧ w = w' := by
  go_enter Tryd.func40, Tryd.ntmps40
  go_wp2
  go_ret
  exact ⟨ret_bool (nat_beq _ _), rfl⟩

end Go.Proofs.YtldddecaeloohaaDoor
