/-
  The contracts of package sat and of the reference's functions beside it. Each leaves the world as it was.
-/
import Derived.Test.YtbamdilihpnhjaaRows
import Derived.Test.YtbamdilihpnhjaaSatPlain
import Derived.Test.YtbamdilihpnhjaaBits
import Derived.WalkKit
import Derived.ProofKit
import Derived.OpenShut
import Derived.Lib.Hide
set_option linter.unusedSimpArgs false
set_option linter.unusedVariables false
namespace Go.Proofs.Ytbamdilihpnhjaa.Sat
set_option linter.unusedVariables false
set_option maxRecDepth 20000
open Go.ChangeShapes Go.WideShapes Go.ChangeAt Go.RowKit

theorem ret_u64 {a b : Int} (h : a = b) : Ending.returned (.int .u64 a) = .returned (.int .u64 b) := by rw [h]

theorem ref_sub (a b : Int) (a0 : 0 ≤ a) (a1 : a ≤ 18446744073709551615) (b0 : 0 ≤ b) (b1 : b ≤ 18446744073709551615) (w : World) :
    Calls Try.prog 30 #[.int .u64 a, .int .u64 b] w fun e w' => e = .returned (.int .u64 (sub a b)) ∧ w = w' := by
  go_enter Try.func30, Try.ntmps30
  go_wp2
  all_goals go_ret
  all_goals exact ⟨ret_u64 (by unfold sub; split <;> omega), rfl⟩
theorem sub_any (a b : Int) (a0 : 0 ≤ a) (a1 : a ≤ 18446744073709551615) (b0 : 0 ≤ b) (b1 : b ≤ 18446744073709551615) (w : World) :
    Calls Try.prog 21 #[.int .u64 a, .int .u64 b] w fun e w' => e = .returned (.int .u64 (sub a b)) ∧ w = w' := by
  go_enter Try.func21, Try.ntmps21
  go_wp2
  all_goals go_ret
  all_goals exact ⟨ret_u64 (by unfold sub; split <;> omega), rfl⟩

theorem add_any (a b : Int) (a0 : 0 ≤ a) (a1 : a ≤ 18446744073709551615) (b0 : 0 ≤ b) (b1 : b ≤ 18446744073709551615) (w : World) :
    Calls Try.prog 25 #[.int .u64 a, .int .u64 b] w fun e w' => e = .returned (.int .u64 (add a b)) ∧ w = w' := by
  by_cases h : a + b ≤ 18446744073709551615
  · have e1 : (a + b) % 18446744073709551616 = a + b := by omega
    have e2 : (a + b) / 18446744073709551616 = 0 := by omega
    go_enter Try.func25, Try.ntmps25
    go_wp2_with (simp only [Bits.add64_0 a b a0 b0, e1, e2])
    go_ret
    exact ⟨ret_u64 (by unfold add; split <;> omega), rfl⟩
  · have e2 : (a + b) / 18446744073709551616 = 1 := by omega
    go_enter Try.func25, Try.ntmps25
    go_wp2_with (simp only [Bits.add64_0 a b a0 b0, e2])
    go_ret
    exact ⟨ret_u64 (by unfold add; split <;> omega), rfl⟩
theorem ref_add (a b : Int) (a0 : 0 ≤ a) (a1 : a ≤ 18446744073709551615) (b0 : 0 ≤ b) (b1 : b ≤ 18446744073709551615) (w : World) :
    Calls Try.prog 23 #[.int .u64 a, .int .u64 b] w fun e w' => e = .returned (.int .u64 (add a b)) ∧ w = w' := by
  by_cases h : a + b ≤ 18446744073709551615
  all_goals
    go_enter Try.func23, Try.ntmps23
    go_wp2
    go_ret
    exact ⟨ret_u64 (by unfold add; split <;> omega), rfl⟩

theorem mul_any (a b : Int) (a0 : 0 ≤ a) (a1 : a ≤ 18446744073709551615) (b0 : 0 ≤ b) (b1 : b ≤ 18446744073709551615) (w : World) :
    Calls Try.prog 26 #[.int .u64 a, .int .u64 b] w fun e w' => e = .returned (.int .u64 (mul a b)) ∧ w = w' := by
  have m0 := Int.mul_nonneg a0 b0
  by_cases h : a * b ≤ 18446744073709551615
  · have e1 : a * b % 18446744073709551616 = a * b := by omega
    have e2 : a * b / 18446744073709551616 = 0 := by omega
    have H1 := Lib.hid e1
    have H2 := Lib.hid e2
    clear e1 e2
    go_enter Try.func26, Try.ntmps26
    go_wp2_with (go_at_call 35; refine (Bits.mul64 a b a0 a1 b0 b1 _).mono ?_; rw [H1.out, H2.out]; rintro e w' ⟨rfl, rfl⟩)
    go_ret
    exact ⟨ret_u64 (mul_fits h).symm, rfl⟩
  · have e2 : ((a * b / 18446744073709551616 : Int) == 0) = false := by
      have : 1 ≤ a * b / 18446744073709551616 := by omega
      simp only [beq_eq_false_iff_ne]; omega
    have e3 : ((a * b / 18446744073709551616 : Int) != 0) = true := by simp only [bne, e2]; rfl
    go_enter Try.func26, Try.ntmps26
    go_wp2_with (go_at_call 35; refine (Bits.mul64 a b a0 a1 b0 b1 _).mono ?_; rintro e w' ⟨rfl, rfl⟩)
    go_ret
    exact ⟨ret_u64 (mul_over (by omega)).symm, rfl⟩
theorem ref_mul (a b : Int) (a0 : 0 ≤ a) (a1 : a ≤ 18446744073709551615) (b0 : 0 ≤ b) (b1 : b ≤ 18446744073709551615) (w : World) :
    Calls Try.prog 15 #[.int .u64 a, .int .u64 b] w fun e w' => e = .returned (.int .u64 (mul a b)) ∧ w = w' := by
  have m0 := Int.mul_nonneg a0 b0
  by_cases hz : a = 0
  · subst hz
    go_enter Try.func15, Try.ntmps15
    go_wp2
    go_ret
    exact ⟨ret_u64 (mul_zero_left b).symm, rfl⟩
  · have ht := mul_test (a := a) (b := b) (by omega)
    by_cases h : 18446744073709551615 < a * b
    · have t := ht.2 h
      clear ht
      go_enter Try.func15, Try.ntmps15
      go_wp2
      go_ret
      exact ⟨ret_u64 (mul_over h).symm, rfl⟩
    · have t : b ≤ 18446744073709551615 / a := by
        have := mt ht.1 h
        omega
      clear ht
      go_enter Try.func15, Try.ntmps15
      go_wp2
      go_ret
      exact ⟨ret_u64 (mul_fits (by omega)).symm, rfl⟩

end Go.Proofs.Ytbamdilihpnhjaa.Sat
