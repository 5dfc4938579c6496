/-
  What text.isNewline answers. For every byte, no condition.
-/
import Derived.WalkKit
import Derived.Lib.Bytealg
import Derived.Lib.Hide
import Derived.Outline
import Derived.Test.YtmonbnmjbgdkoaaDoorProg
import Derived.Test.YtmonbnmjbgdkoaaDoorEP
namespace Go.Proofs.YtmonbnmjbgdkoaaDoor
open Go.RowKit

theorem ret_bool {a b : Bool} (h : a = b) : Ending.returned (.bool a) = .returned (.bool b) := by rw [h]

theorem nat_beq (a b : Nat) : (((a : Nat) : Int) == (b : Int)) = decide (a = b) := by
  rw [Bool.eq_iff_iff]; simp; omega

set_option maxHeartbeats 400000 in
theorem isNewline_any (c : UInt8) (w : World) : Calls Tryd.prog 15 #[.int .u8 (c.toNat : Int)] w fun e w' => e = .returned (.bool (nlB c)) ∧ w = w' := by
  go_enter Tryd.func15, Tryd.ntmps15
  go_wp2
  go_ret
  exact ⟨ret_bool (nat_beq _ _), rfl⟩

end Go.Proofs.YtmonbnmjbgdkoaaDoor
