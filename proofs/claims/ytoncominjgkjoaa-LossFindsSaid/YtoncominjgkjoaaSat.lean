/-
  The contracts of package sat and of the reference's functions beside it. Each leaves the world as it was.
-/
import Derived.Test.YtoncominjgkjoaaRows
import Derived.Test.YtoncominjgkjoaaSatPlain
import Derived.Test.YtoncominjgkjoaaBits
import Derived.WalkKit
import Derived.ProofKit
import Derived.OpenShut
import Derived.Lib.Hide
set_option linter.unusedSimpArgs false
set_option linter.unusedVariables false
namespace Go.Proofs.Ytoncominjgkjoaa.Sat
set_option linter.unusedVariables false
set_option maxRecDepth 20000
open Go.ChangeShapes Go.WideShapes Go.ChangeAt Go.RowKit

theorem ret_u64 {a b : Int} (h : a = b) : Ending.returned (.int .u64 a) = .returned (.int .u64 b) := by rw [h]

theorem ref_sub (a b : Int) (a0 : 0 ≤ a) (a1 : a ≤ 18446744073709551615) (b0 : 0 ≤ b) (b1 : b ≤ 18446744073709551615) (w : World) :
    Calls Try.prog 15 #[.int .u64 a, .int .u64 b] w fun e w' => e = .returned (.int .u64 (sub a b)) ∧ w = w' := by
  go_enter Try.func15, Try.ntmps15
  go_wp2
  all_goals go_ret
  all_goals exact ⟨ret_u64 (by unfold sub; split <;> omega), rfl⟩
theorem sub_any (a b : Int) (a0 : 0 ≤ a) (a1 : a ≤ 18446744073709551615) (b0 : 0 ≤ b) (b1 : b ≤ 18446744073709551615) (w : World) :
    Calls Try.prog 50 #[.int .u64 a, .int .u64 b] w fun e w' => e = .returned (.int .u64 (sub a b)) ∧ w = w' := by
  go_enter Try.func50, Try.ntmps50
  go_wp2
  all_goals go_ret
  all_goals exact ⟨ret_u64 (by unfold sub; split <;> omega), rfl⟩

theorem add_any (a b : Int) (a0 : 0 ≤ a) (a1 : a ≤ 18446744073709551615) (b0 : 0 ≤ b) (b1 : b ≤ 18446744073709551615) (w : World) :
    Calls Try.prog 49 #[.int .u64 a, .int .u64 b] w fun e w' => e = .returned (.int .u64 (add a b)) ∧ w = w' := by
  by_cases h : a + b ≤ 18446744073709551615
  · have e1 : (a + b) % 18446744073709551616 = a + b := by omega
    have e2 : (a + b) / 18446744073709551616 = 0 := by omega
    go_enter Try.func49, Try.ntmps49
    go_wp2_with (simp only [Bits.add64_0 a b a0 b0, e1, e2])
    go_ret
    exact ⟨ret_u64 (by unfold add; split <;> omega), rfl⟩
  · have e2 : (a + b) / 18446744073709551616 = 1 := by omega
    go_enter Try.func49, Try.ntmps49
    go_wp2_with (simp only [Bits.add64_0 a b a0 b0, e2])
    go_ret
    exact ⟨ret_u64 (by unfold add; split <;> omega), rfl⟩
theorem ref_add (a b : Int) (a0 : 0 ≤ a) (a1 : a ≤ 18446744073709551615) (b0 : 0 ≤ b) (b1 : b ≤ 18446744073709551615) (w : World) :
    Calls Try.prog 26 #[.int .u64 a, .int .u64 b] w fun e w' => e = .returned (.int .u64 (add a b)) ∧ w = w' := by
  by_cases h : a + b ≤ 18446744073709551615
  all_goals
    go_enter Try.func26, Try.ntmps26
    go_wp2
    go_ret
    exact ⟨ret_u64 (by unfold add; split <;> omega), rfl⟩

end Go.Proofs.Ytoncominjgkjoaa.Sat
