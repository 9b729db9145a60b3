/-
  The contracts of package sat and of the reference's functions beside it. Each leaves the world as it was.
-/
import Derived.Test.YtnnpklnhdfpnjaaRows
import Derived.Test.YtnnpklnhdfpnjaaSatPlain
import Derived.Test.YtnnpklnhdfpnjaaBits
import Derived.WalkKit
import Derived.ProofKit
import Derived.OpenShut
import Derived.Lib.Hide
set_option linter.unusedSimpArgs false
set_option linter.unusedVariables false
namespace Go.Proofs.Ytnnpklnhdfpnjaa.Sat
set_option linter.unusedVariables false
set_option maxRecDepth 20000
open Go.ChangeShapes Go.WideShapes Go.ChangeAt Go.RowKit

theorem ret_u64 {a b : Int} (h : a = b) : Ending.returned (.int .u64 a) = .returned (.int .u64 b) := by rw [h]

theorem ref_sub (a b : Int) (a0 : 0 ≤ a) (a1 : a ≤ 18446744073709551615) (b0 : 0 ≤ b) (b1 : b ≤ 18446744073709551615) (w : World) :
    Calls Try.prog 47 #[.int .u64 a, .int .u64 b] w fun e w' => e = .returned (.int .u64 (sub a b)) ∧ w = w' := by
  go_enter Try.func47, Try.ntmps47
  go_wp2
  all_goals go_ret
  all_goals exact ⟨ret_u64 (by unfold sub; split <;> omega), rfl⟩
theorem sub_any (a b : Int) (a0 : 0 ≤ a) (a1 : a ≤ 18446744073709551615) (b0 : 0 ≤ b) (b1 : b ≤ 18446744073709551615) (w : World) :
    Calls Try.prog 76 #[.int .u64 a, .int .u64 b] w fun e w' => e = .returned (.int .u64 (sub a b)) ∧ w = w' := by
  go_enter Try.func76, Try.ntmps76
  go_wp2
  all_goals go_ret
  all_goals exact ⟨ret_u64 (by unfold sub; split <;> omega), rfl⟩

theorem add_any (a b : Int) (a0 : 0 ≤ a) (a1 : a ≤ 18446744073709551615) (b0 : 0 ≤ b) (b1 : b ≤ 18446744073709551615) (w : World) :
    Calls Try.prog 37 #[.int .u64 a, .int .u64 b] w fun e w' => e = .returned (.int .u64 (add a b)) ∧ w = w' := by
  by_cases h : a + b ≤ 18446744073709551615
  · have e1 : (a + b) % 18446744073709551616 = a + b := by omega
    have e2 : (a + b) / 18446744073709551616 = 0 := by omega
    go_enter Try.func37, Try.ntmps37
    go_wp2_with (simp only [Bits.add64_0 a b a0 b0, e1, e2])
    go_ret
    exact ⟨ret_u64 (by unfold add; split <;> omega), rfl⟩
  · have e2 : (a + b) / 18446744073709551616 = 1 := by omega
    go_enter Try.func37, Try.ntmps37
    go_wp2_with (simp only [Bits.add64_0 a b a0 b0, e2])
    go_ret
    exact ⟨ret_u64 (by unfold add; split <;> omega), rfl⟩
theorem ref_add (a b : Int) (a0 : 0 ≤ a) (a1 : a ≤ 18446744073709551615) (b0 : 0 ≤ b) (b1 : b ≤ 18446744073709551615) (w : World) :
    Calls Try.prog 44 #[.int .u64 a, .int .u64 b] w fun e w' => e = .returned (.int .u64 (add a b)) ∧ w = w' := by
  by_cases h : a + b ≤ 18446744073709551615
  all_goals
    go_enter Try.func44, Try.ntmps44
    go_wp2
    go_ret
    exact ⟨ret_u64 (by unfold add; split <;> omega), rfl⟩

theorem mul_any (a b : Int) (a0 : 0 ≤ a) (a1 : a ≤ 18446744073709551615) (b0 : 0 ≤ b) (b1 : b ≤ 18446744073709551615) (w : World) :
    Calls Try.prog 57 #[.int .u64 a, .int .u64 b] w fun e w' => e = .returned (.int .u64 (mul a b)) ∧ w = w' := by
  have m0 := Int.mul_nonneg a0 b0
  by_cases h : a * b ≤ 18446744073709551615
  · have e1 : a * b % 18446744073709551616 = a * b := by omega
    have e2 : a * b / 18446744073709551616 = 0 := by omega
    have H1 := Lib.hid e1
    have H2 := Lib.hid e2
    clear e1 e2
    go_enter Try.func57, Try.ntmps57
    go_wp2_with (go_at_call 72; refine (Bits.mul64 a b a0 a1 b0 b1 _).mono ?_; rw [H1.out, H2.out]; rintro e w' ⟨rfl, rfl⟩)
    go_ret
    exact ⟨ret_u64 (mul_fits h).symm, rfl⟩
  · have e2 : ((a * b / 18446744073709551616 : Int) == 0) = false := by
      have : 1 ≤ a * b / 18446744073709551616 := by omega
      simp only [beq_eq_false_iff_ne]; omega
    have e3 : ((a * b / 18446744073709551616 : Int) != 0) = true := by simp only [bne, e2]; rfl
    go_enter Try.func57, Try.ntmps57
    go_wp2_with (go_at_call 72; refine (Bits.mul64 a b a0 a1 b0 b1 _).mono ?_; rintro e w' ⟨rfl, rfl⟩)
    go_ret
    exact ⟨ret_u64 (mul_over (by omega)).symm, rfl⟩
theorem ref_mul (a b : Int) (a0 : 0 ≤ a) (a1 : a ≤ 18446744073709551615) (b0 : 0 ≤ b) (b1 : b ≤ 18446744073709551615) (w : World) :
    Calls Try.prog 42 #[.int .u64 a, .int .u64 b] w fun e w' => e = .returned (.int .u64 (mul a b)) ∧ w = w' := by
  have m0 := Int.mul_nonneg a0 b0
  by_cases hz : a = 0
  · subst hz
    go_enter Try.func42, Try.ntmps42
    go_wp2
    go_ret
    exact ⟨ret_u64 (mul_zero_left b).symm, rfl⟩
  · have ht := mul_test (a := a) (b := b) (by omega)
    by_cases h : 18446744073709551615 < a * b
    · have t := ht.2 h
      clear ht
      go_enter Try.func42, Try.ntmps42
      go_wp2
      go_ret
      exact ⟨ret_u64 (mul_over h).symm, rfl⟩
    · have t : b ≤ 18446744073709551615 / a := by
        have := mt ht.1 h
        omega
      clear ht
      go_enter Try.func42, Try.ntmps42
      go_wp2
      go_ret
      exact ⟨ret_u64 (mul_fits (by omega)).symm, rfl⟩

theorem diff_any (a b : Int) (a0 : 0 ≤ a) (a1 : a ≤ 18446744073709551615) (b0 : 0 ≤ b) (b1 : b ≤ 18446744073709551615) (w : World) :
    Calls Try.prog 77 #[.int .u64 a, .int .u64 b] w fun e w' => e = .returned (.int .u64 (diff a b)) ∧ w = w' := by
  by_cases h : a < b
  all_goals
    go_enter Try.func77, Try.ntmps77
    go_wp2
    go_ret
    exact ⟨ret_u64 (by unfold diff; split <;> omega), rfl⟩
theorem ref_diff (a b : Int) (a0 : 0 ≤ a) (a1 : a ≤ 18446744073709551615) (b0 : 0 ≤ b) (b1 : b ≤ 18446744073709551615) (w : World) :
    Calls Try.prog 67 #[.int .u64 a, .int .u64 b] w fun e w' => e = .returned (.int .u64 (diff a b)) ∧ w = w' := by
  by_cases h : b < a
  all_goals
    go_enter Try.func67, Try.ntmps67
    go_wp2
    go_ret
    exact ⟨ret_u64 (by unfold diff; split <;> omega), rfl⟩
theorem clamp_any (a b c : Int) (w : World) :
    Calls Try.prog 41 #[.int .u64 a, .int .u64 b, .int .u64 c] w fun e w' => e = .returned (.int .u64 (clamp a b c)) ∧ w = w' := by
  go_enter Try.func41, Try.ntmps41
  go_wp2
  all_goals go_ret
  all_goals exact ⟨ret_u64 (by unfold clamp; split <;> (try split) <;> omega), rfl⟩
theorem ref_clamp (a b c : Int) (w : World) :
    Calls Try.prog 27 #[.int .u64 a, .int .u64 b, .int .u64 c] w fun e w' => e = .returned (.int .u64 (clamp a b c)) ∧ w = w' := by
  go_enter Try.func27, Try.ntmps27
  go_wp2
  all_goals go_ret
  all_goals exact ⟨ret_u64 (by unfold clamp; split <;> (try split) <;> omega), rfl⟩
end Go.Proofs.Ytnnpklnhdfpnjaa.Sat
