/-
  The document's examples, as the laws of chapter 1 ask for them: they hold.
-/
import Derived.Test.YtlfnegbhegfeeaaSatShl
import Derived.RowKit3
namespace Go.Proofs.Ytlfnegbhegfeeaa.Sat
set_option linter.unusedVariables false
open Go.ChangeShapes Go.WideShapes Go.ChangeAt Go.RowKit

theorem u64_of {a : Int} (h : (Lit.int .u64 a).wf = true) : 0 ≤ a ∧ a ≤ 18446744073709551615 := by
  simp [Lit.wf, IntKind.min, IntKind.max, IntKind.bits, IntKind.signed] at h
  omega
theorem i64_of {a : Int} (h : (Lit.int .i64 a).wf = true) : -9223372036854775808 ≤ a ∧ a ≤ 9223372036854775807 := by
  simp [Lit.wf, IntKind.min, IntKind.max, IntKind.bits, IntKind.signed] at h
  omega
theorem u8_of {a : Int} (h : (Lit.int .u8 a).wf = true) : 0 ≤ a ∧ a ≤ 255 := by
  simp [Lit.wf, IntKind.min, IntKind.max, IntKind.bits, IntKind.signed] at h
  omega
theorem ex_sub : sub 3 5 = 0 := by decide +kernel
theorem ex_shl1 : shl 1 64 = 18446744073709551615 := by decide +kernel
theorem ex_shl2 : shl 0 99 = 0 := by decide +kernel
theorem ex_add : add 18446744073709551615 1 = 18446744073709551615 := by decide +kernel
theorem ex_mul : mul 3 5 = 15 := by decide +kernel
theorem ex_clamp : clamp 5 7 9 = 7 := by decide +kernel
theorem ex_diff : diff 3 5 = 2 := by decide +kernel
theorem alive_any (w : World) :
    Calls Try.prog 10 #[] w fun e w' => e = .returned (.bool true) ∧ w = w' := by
  have c1 := sub_any 3 5 (by decide) (by decide) (by decide) (by decide)
  have c2 := shl_any 1 64 (by decide) (by decide) (by decide) (by decide)
  have c3 := shl_any 0 99 (by decide) (by decide) (by decide) (by decide)
  have c4 := add_any 18446744073709551615 1 (by decide) (by decide) (by decide) (by decide)
  have c5 := mul_any 3 5 (by decide) (by decide) (by decide) (by decide)
  have c6 := clamp_any 5 7 9
  have c7 := diff_any 3 5 (by decide) (by decide) (by decide) (by decide)
  rw [ex_sub] at c1
  rw [ex_shl1] at c2
  rw [ex_shl2] at c3
  rw [ex_add] at c4
  rw [ex_mul] at c5
  rw [ex_clamp] at c6
  rw [ex_diff] at c7
  go_enter Try.func10, Try.ntmps10
  go_wp2_with (first
    | (go_at_call 13; refine (c1 _).mono ?_; rintro e w' ⟨rfl, rfl⟩)
    | (go_at_call 17; with_reducible refine (c2 _).mono ?_; rintro e w' ⟨rfl, rfl⟩)
    | (go_at_call 17; with_reducible refine (c3 _).mono ?_; rintro e w' ⟨rfl, rfl⟩)
    | (go_at_call 11; refine (c4 _).mono ?_; rintro e w' ⟨rfl, rfl⟩)
    | (go_at_call 15; refine (c5 _).mono ?_; rintro e w' ⟨rfl, rfl⟩)
    | (go_at_call 21; refine (c6 _).mono ?_; rintro e w' ⟨rfl, rfl⟩)
    | (go_at_call 19; refine (c7 _).mono ?_; rintro e w' ⟨rfl, rfl⟩))
  go_ret
  exact ⟨rfl, rfl⟩
end Go.Proofs.Ytlfnegbhegfeeaa.Sat
