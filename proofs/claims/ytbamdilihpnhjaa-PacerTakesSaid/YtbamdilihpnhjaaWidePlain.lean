/-
  The plain mathematics of chapter 2: 128-bit products and quotients over whole numbers. No program is named here.
-/
import Derived.IntWalk
import Derived.Laws.Bits64b
import Derived.Lib.ItoaNum
set_option linter.unusedSimpArgs false
set_option linter.unusedVariables false
namespace Go.Proofs.Ytbamdilihpnhjaa.Wide
set_option linter.unusedVariables false

theorem u64_mod (a : Int) : IntKind.u64.wrap a = a % 18446744073709551616 := by rw [IntKind.wrap_u64]

theorem and_one (x : Int) (h0 : 0 ≤ x) (h1 : x ≤ 18446744073709551615) : bits .and .u64 x 1 = x % 2 := by
  obtain ⟨X, rfl⟩ := Int.eq_ofNat_of_zero_le h0
  have h := bits_and_u64_nat X 1 (by omega) (by omega)
  rw [show X &&& 1 = X % 2 from Nat.and_two_pow_sub_one_eq_mod X 1] at h
  exact h
theorem low_half (a : Int) (h0 : 0 ≤ a) (h1 : a ≤ 18446744073709551615) : bits .and .u64 a 4294967295 = a % 4294967296 := by
  obtain ⟨A, rfl⟩ := Int.eq_ofNat_of_zero_le h0
  have h := bits_and_u64_nat A 4294967295 (by omega) (by omega)
  rw [show A &&& 4294967295 = A % 4294967296 from Nat.and_two_pow_sub_one_eq_mod A 32] at h
  exact h
theorem or_low (s : Nat) (x y : Int) (x0 : 0 ≤ x) (y0 : 0 ≤ y) (hy : y < 2 ^ s) (hx : x * 2 ^ s + y ≤ 18446744073709551615) :
    bits .or .u64 (x * 2 ^ s) y = x * 2 ^ s + y := by
  obtain ⟨X, rfl⟩ := Int.eq_ofNat_of_zero_le x0
  obtain ⟨Y, rfl⟩ := Int.eq_ofNat_of_zero_le y0
  have e : ((X : Int) * 2 ^ s) = ((2 ^ s * X : Nat) : Int) := by rw [Int.natCast_mul, Int.natCast_pow, Int.mul_comm]; rfl
  rw [e] at hx ⊢
  have hY : Y < 2 ^ s := by
    have : ((2 : Int) ^ s) = ((2 ^ s : Nat) : Int) := by rw [Int.natCast_pow]; rfl
    omega
  rw [bits_or_u64_nat (2 ^ s * X) Y (by omega) (by omega), ← Nat.two_pow_add_eq_or_of_lt hY]
  rfl
/-- A word shifted by one, with a bit put in. -/
theorem or_bit (x y : Int) (x0 : 0 ≤ x) (y0 : 0 ≤ y) (hy : y ≤ 1) :
    bits .or .u64 (IntKind.u64.wrap (x * 2)) y = (x * 2) % 18446744073709551616 + y := by
  have h : IntKind.u64.wrap (x * 2) = (x % 9223372036854775808) * 2 ^ 1 := by rw [u64_mod]; omega
  rw [h, or_low 1 _ y (by omega) y0 (by omega) (by omega)]
  omega

/-! The product, bit by bit -/
def TimesAt (a b h l k : Int) : Prop :=
  0 ≤ h ∧ h ≤ 18446744073709551615 ∧ 0 ≤ l ∧ l ≤ 18446744073709551615 ∧ h * 18446744073709551616 + l = a * (b / 2 ^ (k + 1).toNat)
theorem div_half (b : Int) (k : Nat) : b / 2 ^ (k + 1) = b / 2 ^ k / 2 := by
  rw [Int.pow_succ, ← Int.ediv_ediv_of_nonneg (Int.le_of_lt (Int.pow_pos (by decide)))]
theorem times_le {a b c : Int} (a0 : 0 ≤ a) (a1 : a ≤ 18446744073709551615) (c0 : 0 ≤ c) (h : c ≤ b) (b1 : b ≤ 18446744073709551615) : a * c ≤ 18446744073709551615 * 18446744073709551615 := by
  have h1 : a * c ≤ 18446744073709551615 * c := Int.mul_le_mul_of_nonneg_right a1 c0
  omega
theorem pow_div_le (b : Int) (k : Nat) (b0 : 0 ≤ b) : 0 ≤ b / 2 ^ k ∧ b / 2 ^ k ≤ b := by
  refine ⟨Int.ediv_nonneg b0 (Int.le_of_lt (Int.pow_pos (by decide))), Int.ediv_le_self _ b0⟩
theorem times_start (a b : Int) (b0 : 0 ≤ b) (b1 : b ≤ 18446744073709551615) : TimesAt a b 0 0 63 := by
  refine ⟨by omega, by omega, by omega, by omega, ?_⟩
  have e : b / 2 ^ (63 + 1 : Int).toNat = 0 := Int.ediv_eq_zero_of_lt b0 (by show b < 2 ^ 64; omega)
  rw [e]; omega
theorem times_end {a b h l k : Int} (hk : k < 0) (k0 : -1 ≤ k) (H : TimesAt a b h l k) : h = a * b / 18446744073709551616 ∧ l = a * b % 18446744073709551616 := by
  obtain ⟨h0, h1, l0, l1, e⟩ := H
  obtain rfl : k = -1 := by omega
  have : b / 2 ^ (-1 + 1 : Int).toNat = b := by show b / 2 ^ 0 = b; omega
  rw [this] at e
  generalize a * b = x at *
  omega
/-- What one round of the product does to the number so far. -/
theorem times_step {a b h l k : Int} (a0 : 0 ≤ a) (a1 : a ≤ 18446744073709551615) (b0 : 0 ≤ b) (b1 : b ≤ 18446744073709551615) (k0 : 0 ≤ k) (H : TimesAt a b h l k) :
    ∃ x : Int, x ≤ 18446744073709551615 * 18446744073709551615 ∧ a * (b / 2 ^ (k - 1 + 1).toNat) = x ∧
      (b / 2 ^ k.toNat % 2 = 1 → x = 2 * (h * 18446744073709551616 + l) + a) ∧ (b / 2 ^ k.toNat % 2 = 0 → x = 2 * (h * 18446744073709551616 + l)) := by
  obtain ⟨h0, h1, l0, l1, e⟩ := H
  have e1 : (k - 1 + 1).toNat = k.toNat := by omega
  have e2 : (k + 1).toNat = k.toNat + 1 := by omega
  rw [e2, div_half] at e
  obtain ⟨c0, c1⟩ := pow_div_le b k.toNat b0
  have hx := times_le a0 a1 c0 c1 b1
  rw [e1]
  generalize b / 2 ^ k.toNat = c at *
  refine ⟨a * c, hx, rfl, ?_, ?_⟩
  · intro hc
    have : c = 2 * (c / 2) + 1 := by omega
    rw [this, Int.mul_add, ← Int.mul_assoc, Int.mul_comm a 2, Int.mul_assoc, show (2 * (c / 2) + 1) / 2 = c / 2 by omega] at *
    omega
  · intro hc
    have : c = 2 * (c / 2) := by omega
    rw [this, ← Int.mul_assoc, Int.mul_comm a 2, Int.mul_assoc, show (2 * (c / 2)) / 2 = c / 2 by omega] at *
    omega
theorem times_one {a b h l k : Int} (a0 : 0 ≤ a) (a1 : a ≤ 18446744073709551615) (b0 : 0 ≤ b) (b1 : b ≤ 18446744073709551615) (k0 : 0 ≤ k) (H : TimesAt a b h l k)
    (hb : (bits .and .u64 (b / 2 ^ k.toNat) 1 == 1) = true) :
    (IntKind.u64.wrap (IntKind.u64.wrap (l * 2) + a) < a →
      TimesAt a b (IntKind.u64.wrap (bits .or .u64 (IntKind.u64.wrap (h * 2)) (l / 9223372036854775808) + 1)) (IntKind.u64.wrap (IntKind.u64.wrap (l * 2) + a)) (k - 1)) ∧
    (a ≤ IntKind.u64.wrap (IntKind.u64.wrap (l * 2) + a) →
      TimesAt a b (bits .or .u64 (IntKind.u64.wrap (h * 2)) (l / 9223372036854775808)) (IntKind.u64.wrap (IntKind.u64.wrap (l * 2) + a)) (k - 1)) := by
  obtain ⟨c0, c1⟩ := pow_div_le b k.toNat b0
  rw [and_one _ c0 (by omega), beq_iff_eq] at hb
  obtain ⟨x, x1, ex, hx, _⟩ := times_step a0 a1 b0 b1 k0 H
  have hx := hx hb
  obtain ⟨h0, h1, l0, l1, e⟩ := H
  unfold TimesAt
  rw [ex, or_bit h _ h0 (by omega) (by omega)]
  simp only [u64_mod]
  clear ex e hb
  constructor
  all_goals
    intro hc
    refine ⟨by omega, by omega, by omega, by omega, by omega⟩
theorem times_none {a b h l k : Int} (a0 : 0 ≤ a) (a1 : a ≤ 18446744073709551615) (b0 : 0 ≤ b) (b1 : b ≤ 18446744073709551615) (k0 : 0 ≤ k) (H : TimesAt a b h l k)
    (hb : (bits .and .u64 (b / 2 ^ k.toNat) 1 == 1) = false) :
    TimesAt a b (bits .or .u64 (IntKind.u64.wrap (h * 2)) (l / 9223372036854775808)) (IntKind.u64.wrap (l * 2)) (k - 1) := by
  obtain ⟨c0, c1⟩ := pow_div_le b k.toNat b0
  rw [and_one _ c0 (by omega), beq_eq_false_iff_ne] at hb
  obtain ⟨x, x1, ex, _, hx⟩ := times_step a0 a1 b0 b1 k0 H
  have hx := hx (by omega)
  obtain ⟨h0, h1, l0, l1, e⟩ := H
  unfold TimesAt
  rw [ex, or_bit h _ h0 (by omega) (by omega)]
  simp only [u64_mod]
  clear ex e hb
  refine ⟨by omega, by omega, by omega, by omega, by omega⟩
end Go.Proofs.Ytbamdilihpnhjaa.Wide
