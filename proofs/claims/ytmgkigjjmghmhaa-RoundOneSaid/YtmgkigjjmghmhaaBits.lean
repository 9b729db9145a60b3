/-
  Contracts of math/bits, as the program calls them: Add64 with carry 0, Mul64, Len64, LeadingZeros64. Each leaves the world as it was.
-/
import Derived.Test.YtmgkigjjmghmhaaRows
import Derived.WalkKit
import Derived.ProofKit
import Derived.OpenShut
import Derived.Lib.Mul64
import Derived.Lib.BitFns
import Derived.Lib.ItoaNum
import Derived.Laws.Bits64b
import Derived.Lib.Hide
set_option linter.unusedSimpArgs false
set_option linter.unusedVariables false
namespace Go.Proofs.Ytmgkigjjmghmhaa.Bits
open Go.ChangeShapes Go.WideShapes Go.ChangeAt Go.RowKit

/-- What the walk writes for a number's lower half. -/
theorem low_half (a : Int) (h0 : 0 ≤ a) (h1 : a ≤ 18446744073709551615) : bits .and .u64 a 4294967295 = a % 4294967296 := by
  obtain ⟨A, rfl⟩ := Int.eq_ofNat_of_zero_le h0
  have h := bits_and_u64_nat A 4294967295 (by omega) (by omega)
  rw [show A &&& 4294967295 = A % 4294967296 from Nat.and_two_pow_sub_one_eq_mod A 32] at h
  exact h
theorem u64_id (a : Int) (h0 : 0 ≤ a) (h1 : a < 18446744073709551616) : IntKind.u64.wrap a = a := IntWalk.u64_in a ⟨h0, by omega⟩
theorem u64_mod (a : Int) : IntKind.u64.wrap a = a % 18446744073709551616 := by rw [IntKind.wrap_u64]

/-- The school method, over whole numbers: no step passes 2^64, and the upper word is the product's. -/
theorem school (x y : Int) (x0 : 0 ≤ x) (x1 : x ≤ 18446744073709551615) (y0 : 0 ≤ y) (y1 : y ≤ 18446744073709551615) :
    ∃ a b c d : Int, a = x / 4294967296 * (y / 4294967296) ∧ b = x / 4294967296 * (y % 4294967296) ∧ c = x % 4294967296 * (y / 4294967296) ∧ d = x % 4294967296 * (y % 4294967296) ∧
      (0 ≤ a ∧ a ≤ 18446744065119617025) ∧ (0 ≤ b ∧ b ≤ 18446744065119617025) ∧ (0 ≤ c ∧ c ≤ 18446744065119617025) ∧ (0 ≤ d ∧ d ≤ 18446744065119617025) ∧
      b + d / 4294967296 < 18446744073709551616 ∧ (b + d / 4294967296) % 4294967296 + c < 18446744073709551616 ∧
      a + (b + d / 4294967296) / 4294967296 + ((b + d / 4294967296) % 4294967296 + c) / 4294967296 = x * y / 18446744073709551616 ∧
      a + (b + d / 4294967296) / 4294967296 + ((b + d / 4294967296) % 4294967296 + c) / 4294967296 < 18446744073709551616 := by
  obtain ⟨X, rfl⟩ := Int.eq_ofNat_of_zero_le x0
  obtain ⟨Y, rfl⟩ := Int.eq_ofNat_of_zero_le y0
  obtain ⟨p, q, r, s⟩ := Lib.mul64_hi X Y (by omega) (by omega)
  have ha := Lib.half_mul_le (a := X / 4294967296) (b := Y / 4294967296) (by omega) (by omega)
  have hb := Lib.half_mul_le (a := X / 4294967296) (b := Y % 4294967296) (by omega) (by omega)
  have hc := Lib.half_mul_le (a := X % 4294967296) (b := Y / 4294967296) (by omega) (by omega)
  have hd := Lib.half_mul_le (a := X % 4294967296) (b := Y % 4294967296) (by omega) (by omega)
  have hxy : X * Y ≤ 18446744073709551615 * 18446744073709551615 := Nat.mul_le_mul (by omega) (by omega)
  refine ⟨((X / 4294967296 * (Y / 4294967296) : Nat) : Int), ((X / 4294967296 * (Y % 4294967296) : Nat) : Int), ((X % 4294967296 * (Y / 4294967296) : Nat) : Int), ((X % 4294967296 * (Y % 4294967296) : Nat) : Int),
    by simp, by simp, by simp, by simp, ?_⟩
  rw [show (X : Int) * (Y : Int) = ((X * Y : Nat) : Int) from (Int.natCast_mul X Y).symm]
  generalize X / 4294967296 * (Y / 4294967296) = a at *
  generalize X / 4294967296 * (Y % 4294967296) = b at *
  generalize X % 4294967296 * (Y / 4294967296) = c at *
  generalize X % 4294967296 * (Y % 4294967296) = d at *
  generalize X * Y = e at *
  omega

end Go.Proofs.Ytmgkigjjmghmhaa.Bits
