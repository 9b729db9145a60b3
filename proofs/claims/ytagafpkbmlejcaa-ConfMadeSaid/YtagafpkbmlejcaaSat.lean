/-
  The contracts of package sat and of the reference's functions beside it. Each leaves the world as it was.
-/
import Derived.Test.YtagafpkbmlejcaaRows
import Derived.Test.YtagafpkbmlejcaaSatPlain
import Derived.Test.YtagafpkbmlejcaaBits
import Derived.WalkKit
import Derived.ProofKit
import Derived.OpenShut
import Derived.Lib.Hide
namespace Go.Proofs.Ytagafpkbmlejcaa.Sat
set_option linter.unusedVariables false
set_option maxRecDepth 20000
open Go.ChangeShapes Go.WideShapes Go.ChangeAt Go.RowKit

theorem ret_u64 {a b : Int} (h : a = b) : Ending.returned (.int .u64 a) = .returned (.int .u64 b) := by rw [h]

theorem ref_mul (a b : Int) (a0 : 0 ≤ a) (a1 : a ≤ 18446744073709551615) (b0 : 0 ≤ b) (b1 : b ≤ 18446744073709551615) (w : World) :
    Calls Try.prog 13 #[.int .u64 a, .int .u64 b] w fun e w' => e = .returned (.int .u64 (mul a b)) ∧ w = w' := by
  have m0 := Int.mul_nonneg a0 b0
  by_cases hz : a = 0
  · subst hz
    go_enter Try.func13, Try.ntmps13
    go_wp2
    go_ret
    exact ⟨ret_u64 (mul_zero_left b).symm, rfl⟩
  · have ht := mul_test (a := a) (b := b) (by omega)
    by_cases h : 18446744073709551615 < a * b
    · have t := ht.2 h
      clear ht
      go_enter Try.func13, Try.ntmps13
      go_wp2
      go_ret
      exact ⟨ret_u64 (mul_over h).symm, rfl⟩
    · have t : b ≤ 18446744073709551615 / a := by
        have := mt ht.1 h
        omega
      clear ht
      go_enter Try.func13, Try.ntmps13
      go_wp2
      go_ret
      exact ⟨ret_u64 (mul_fits (by omega)).symm, rfl⟩

end Go.Proofs.Ytagafpkbmlejcaa.Sat
