/-
  The contracts of package wide and of the reference's functions beside it. Below the heap's size the world is as it was.
-/
import Derived.Test.YtifhklnnfnondaaRows
import Derived.Test.YtifhklnnfnondaaBase
import Derived.Test.YtifhklnnfnondaaWideDigit
import Derived.Test.YtifhklnnfnondaaBits
import Derived.Test.YtifhklnnfnondaaDiv64
import Derived.Test.YtifhklnnfnondaaRefTimes
import Derived.WalkKit
import Derived.ProofKit
import Derived.OpenShut
import Derived.Lib.Hide
import Derived.LoopTactic
import Derived.Outline
namespace Go.Proofs.Ytifhklnnfnondaa.Wide
open Go.ChangeShapes Go.WideShapes Go.ChangeAt Go.RowKit
set_option linter.unusedVariables false

theorem mul_any (a b : Int) (a0 : 0 ≤ a) (a1 : a ≤ 18446744073709551615) (b0 : 0 ≤ b) (b1 : b ≤ 18446744073709551615) (w : World) :
    Calls Try.prog 15 #[.int .u64 a, .int .u64 b] w fun e w' => e = .returned (.tuple #[.int .u64 (a * b / 18446744073709551616), .int .u64 (a * b % 18446744073709551616)]) ∧ w = w' := by
  go_enter Try.func15, Try.ntmps15
  go_wp2_with (go_at_call 17; refine (Bits.mul64 a b a0 a1 b0 b1 _).mono ?_; rintro e w' ⟨rfl, rfl⟩)
  go_ret2
  exact ⟨rfl, rfl⟩
end Go.Proofs.Ytifhklnnfnondaa.Wide
