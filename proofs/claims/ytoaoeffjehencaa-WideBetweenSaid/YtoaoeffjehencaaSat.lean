/-
  The contracts of package sat and of the reference's functions beside it. Each leaves the world as it was.
-/
import Derived.Test.YtoaoeffjehencaaRows
import Derived.Test.YtoaoeffjehencaaSatPlain
import Derived.Test.YtoaoeffjehencaaBits
import Derived.WalkKit
import Derived.ProofKit
import Derived.OpenShut
import Derived.Lib.Hide
namespace Go.Proofs.Ytoaoeffjehencaa.Sat
set_option linter.unusedVariables false
open Go.ChangeShapes Go.WideShapes Go.ChangeAt Go.RowKit

theorem ret_u64 {a b : Int} (h : a = b) : Ending.returned (.int .u64 a) = .returned (.int .u64 b) := by rw [h]

theorem ref_add (a b : Int) (a0 : 0 ≤ a) (a1 : a ≤ 18446744073709551615) (b0 : 0 ≤ b) (b1 : b ≤ 18446744073709551615) (w : World) :
    Calls Try.prog 21 #[.int .u64 a, .int .u64 b] w fun e w' => e = .returned (.int .u64 (add a b)) ∧ w = w' := by
  by_cases h : a + b ≤ 18446744073709551615
  all_goals
    go_enter Try.func21, Try.ntmps21
    go_wp2
    go_ret
    exact ⟨ret_u64 (by unfold add; split <;> omega), rfl⟩

end Go.Proofs.Ytoaoeffjehencaa.Sat
