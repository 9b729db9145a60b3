/-
  Contracts of math/bits, as the program calls them: Add64 with carry 0, Mul64, Len64, LeadingZeros64. Each leaves the world as it was.
-/
import Derived.Test.YtbamdilihpnhjaaRows
import Derived.Test.YtbamdilihpnhjaaLen64
import Derived.WalkKit
import Derived.ProofKit
import Derived.OpenShut
import Derived.Lib.Mul64
import Derived.Lib.BitFns
import Derived.Lib.ItoaNum
import Derived.Laws.Bits64b
import Derived.Lib.Hide
set_option linter.unusedSimpArgs false
set_option linter.unusedVariables false
namespace Go.Proofs.Ytbamdilihpnhjaa.Bits
open Go.ChangeShapes Go.WideShapes Go.ChangeAt Go.RowKit

theorem add64_0 (x y : Int) (hx : 0 ≤ x) (hy : 0 ≤ y) (w : World) : (callFunc 34 #[.int .u64 x, .int .u64 y, .int .u64 0]).run Try.prog w =
    .ok (.value (.tuple #[.int .u64 ((x + y) % 18446744073709551616), .int .u64 ((x + y) / 18446744073709551616)])) w := by
  rw [run_callFunc_extern Try.func34 (by kernel_rfl) (by kernel_rfl) (by kernel_rfl) (e := add64Entry) (by kernel_rfl), run_add64 x y 0 hx hy (Int.le_refl 0) (by decide)]
  simp only [Result.andThen, Int.add_zero]

/-- What the walk writes for a number's lower half. -/
theorem low_half (a : Int) (h0 : 0 ≤ a) (h1 : a ≤ 18446744073709551615) : bits .and .u64 a 4294967295 = a % 4294967296 := by
  obtain ⟨A, rfl⟩ := Int.eq_ofNat_of_zero_le h0
  have h := bits_and_u64_nat A 4294967295 (by omega) (by omega)
  rw [show A &&& 4294967295 = A % 4294967296 from Nat.and_two_pow_sub_one_eq_mod A 32] at h
  exact h
theorem u64_id (a : Int) (h0 : 0 ≤ a) (h1 : a < 18446744073709551616) : IntKind.u64.wrap a = a := IntWalk.u64_in a ⟨h0, by omega⟩
theorem u64_mod (a : Int) : IntKind.u64.wrap a = a % 18446744073709551616 := by rw [IntKind.wrap_u64]

/-- The school method, over whole numbers: no step passes 2^64, and the upper word is the product's. -/
theorem school (x y : Int) (x0 : 0 ≤ x) (x1 : x ≤ 18446744073709551615) (y0 : 0 ≤ y) (y1 : y ≤ 18446744073709551615) :
    ∃ a b c d : Int, a = x / 4294967296 * (y / 4294967296) ∧ b = x / 4294967296 * (y % 4294967296) ∧ c = x % 4294967296 * (y / 4294967296) ∧ d = x % 4294967296 * (y % 4294967296) ∧
      (0 ≤ a ∧ a ≤ 18446744065119617025) ∧ (0 ≤ b ∧ b ≤ 18446744065119617025) ∧ (0 ≤ c ∧ c ≤ 18446744065119617025) ∧ (0 ≤ d ∧ d ≤ 18446744065119617025) ∧
      b + d / 4294967296 < 18446744073709551616 ∧ (b + d / 4294967296) % 4294967296 + c < 18446744073709551616 ∧
      a + (b + d / 4294967296) / 4294967296 + ((b + d / 4294967296) % 4294967296 + c) / 4294967296 = x * y / 18446744073709551616 ∧
      a + (b + d / 4294967296) / 4294967296 + ((b + d / 4294967296) % 4294967296 + c) / 4294967296 < 18446744073709551616 := by
  obtain ⟨X, rfl⟩ := Int.eq_ofNat_of_zero_le x0
  obtain ⟨Y, rfl⟩ := Int.eq_ofNat_of_zero_le y0
  obtain ⟨p, q, r, s⟩ := Lib.mul64_hi X Y (by omega) (by omega)
  have ha := Lib.half_mul_le (a := X / 4294967296) (b := Y / 4294967296) (by omega) (by omega)
  have hb := Lib.half_mul_le (a := X / 4294967296) (b := Y % 4294967296) (by omega) (by omega)
  have hc := Lib.half_mul_le (a := X % 4294967296) (b := Y / 4294967296) (by omega) (by omega)
  have hd := Lib.half_mul_le (a := X % 4294967296) (b := Y % 4294967296) (by omega) (by omega)
  have hxy : X * Y ≤ 18446744073709551615 * 18446744073709551615 := Nat.mul_le_mul (by omega) (by omega)
  refine ⟨((X / 4294967296 * (Y / 4294967296) : Nat) : Int), ((X / 4294967296 * (Y % 4294967296) : Nat) : Int), ((X % 4294967296 * (Y / 4294967296) : Nat) : Int), ((X % 4294967296 * (Y % 4294967296) : Nat) : Int),
    by simp, by simp, by simp, by simp, ?_⟩
  rw [show (X : Int) * (Y : Int) = ((X * Y : Nat) : Int) from (Int.natCast_mul X Y).symm]
  generalize X / 4294967296 * (Y / 4294967296) = a at *
  generalize X / 4294967296 * (Y % 4294967296) = b at *
  generalize X % 4294967296 * (Y / 4294967296) = c at *
  generalize X % 4294967296 * (Y % 4294967296) = d at *
  generalize X * Y = e at *
  omega

set_option maxHeartbeats 1000000 in
theorem mul64 (x y : Int) (x0 : 0 ≤ x) (x1 : x ≤ 18446744073709551615) (y0 : 0 ≤ y) (y1 : y ≤ 18446744073709551615) (w : World) :
    Calls Try.prog 35 #[.int .u64 x, .int .u64 y] w fun e w' => e = .returned (.tuple #[.int .u64 (x * y / 18446744073709551616), .int .u64 (x * y % 18446744073709551616)]) ∧ w = w' := by
  obtain ⟨a, b, c, d, ea, eb, ec, ed, ⟨a0, a1⟩, ⟨b0, b1⟩, ⟨c0, c1⟩, ⟨d0, d1⟩, t1, t2, hi, t3⟩ := school x y x0 x1 y0 y1
  have HA := Lib.hid ea
  have HB := Lib.hid eb
  have HC := Lib.hid ec
  have HD := Lib.hid ed
  have HI := Lib.hid hi
  clear ea eb ec ed hi
  go_enter Try.func35, Try.ntmps35
  go_wp2
  simp only [low_half x x0 x1, low_half y y0 y1, ← HA.out, ← HB.out, ← HC.out, ← HD.out, u64_mod (x * y)]
  rw [u64_id a a0 (by omega), u64_id b b0 (by omega), u64_id c c0 (by omega), u64_id d d0 (by omega)]
  simp only [u64_id (b + d / 4294967296) (by omega) t1, low_half (b + d / 4294967296) (by omega) (by omega), u64_id ((b + d / 4294967296) % 4294967296 + c) (by omega) t2, u64_id (a + (b + d / 4294967296) / 4294967296) (by omega) (by omega), u64_id (a + (b + d / 4294967296) / 4294967296 + ((b + d / 4294967296) % 4294967296 + c) / 4294967296) (by omega) t3]
  rw [HI.out]
  go_ret2
  exact ⟨rfl, rfl⟩

theorem lz64 (x : Int) (w : World) (h0 : 0 ≤ x) (h1 : x ≤ 18446744073709551615) :
    Calls Try.prog 40 #[.int .u64 x] w fun e w' => e = .returned (.int .i64 (64 - (Lib.bitLen x.toNat : Int))) ∧ w = w' := by
  have hl := Lib.bitLen_le x.toNat 64 (Nat.le_refl _) (by omega)
  go_enter Try.func40, Try.ntmps40
  go_wp2_with (go_at_call 41; refine (len64 x _ h0 h1).mono ?_; rintro e w' ⟨rfl, rfl⟩)
  go_ret
  exact ⟨rfl, rfl⟩
end Go.Proofs.Ytbamdilihpnhjaa.Bits
