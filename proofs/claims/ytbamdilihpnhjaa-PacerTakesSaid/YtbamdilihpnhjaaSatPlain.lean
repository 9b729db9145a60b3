/-
  The plain mathematics of chapter 1: saturating arithmetic on whole numbers. No program is named here.
-/
import Derived.Lib.ItoaNum
set_option linter.unusedSimpArgs false
set_option linter.unusedVariables false
namespace Go.Proofs.Ytbamdilihpnhjaa.Sat

def add (a b : Int) : Int := if a + b ≤ 18446744073709551615 then a + b else 18446744073709551615
def sub (a b : Int) : Int := if b > a then 0 else a - b
def mul (a b : Int) : Int := if a * b ≤ 18446744073709551615 then a * b else 18446744073709551615
/-- a times 2 to the k. -/
def pw (a : Int) (k : Nat) : Int := a * 2 ^ k
def shl (a n : Int) : Int := if pw a n.toNat ≤ 18446744073709551615 then pw a n.toNat else 18446744073709551615
def diff (a b : Int) : Int := if a < b then b - a else a - b
def clamp (x lo hi : Int) : Int := if x > hi then hi else if x < lo then lo else x

theorem add_bd {a b : Int} (h0 : 0 ≤ a) (h1 : 0 ≤ b) : 0 ≤ add a b ∧ add a b ≤ 18446744073709551615 := by
  unfold add; split <;> omega
theorem sub_bd {a b : Int} (h1 : 0 ≤ b) (h2 : a ≤ 18446744073709551615) : 0 ≤ sub a b ∧ sub a b ≤ 18446744073709551615 := by
  unfold sub; split <;> omega
theorem mul_bd {a b : Int} (h0 : 0 ≤ a) (h1 : 0 ≤ b) : 0 ≤ mul a b ∧ mul a b ≤ 18446744073709551615 := by
  have := Int.mul_nonneg h0 h1
  unfold mul; split <;> omega
theorem diff_bd {a b : Int} (h0 : 0 ≤ a) (h1 : 0 ≤ b) (h2 : a ≤ 18446744073709551615) (h3 : b ≤ 18446744073709551615) : 0 ≤ diff a b ∧ diff a b ≤ 18446744073709551615 := by
  unfold diff; split <;> omega

theorem pw_zero (a : Int) : pw a 0 = a := by unfold pw; omega
theorem pw_succ (a : Int) (k : Nat) : pw a (k + 1) = pw a k * 2 := by unfold pw; rw [Int.pow_succ, Int.mul_assoc]
theorem pw_nonneg {a : Int} (h : 0 ≤ a) (k : Nat) : 0 ≤ pw a k := by
  induction k with
  | zero => rw [pw_zero]; exact h
  | succ k ih => rw [pw_succ]; omega
theorem pw_le {a : Int} (h : 0 ≤ a) (k d : Nat) : pw a k ≤ pw a (k + d) := by
  induction d with
  | zero => exact Int.le_refl _
  | succ d ih => have := pw_nonneg h (k + d); rw [← Nat.add_assoc, pw_succ]; omega
theorem pw_mono {a : Int} (h : 0 ≤ a) {k l : Nat} (hk : k ≤ l) : pw a k ≤ pw a l := by
  obtain ⟨d, rfl⟩ : ∃ d, l = k + d := ⟨l - k, by omega⟩
  exact pw_le h k d
theorem pw_zero_left (k : Nat) : pw 0 k = 0 := by unfold pw; omega
theorem pw_add (a : Int) (k l : Nat) : pw (pw a k) l = pw a (k + l) := by
  induction l with
  | zero => rw [pw_zero]; rfl
  | succ l ih => rw [pw_succ, ih, ← Nat.add_assoc, pw_succ]
theorem pw_nat (a k : Nat) : pw (a : Int) k = ((a * 2 ^ k : Nat) : Int) := by
  unfold pw; rw [Int.natCast_mul, Int.natCast_pow]; rfl

theorem shl_bd {a n : Int} (h0 : 0 ≤ a) : 0 ≤ shl a n ∧ shl a n ≤ 18446744073709551615 := by
  have := pw_nonneg h0 n.toNat
  unfold shl; split <;> omega
theorem shl_neg {a n : Int} (h1 : a ≤ 18446744073709551615) (h : n ≤ 0) : shl a n = a := by
  have e : n.toNat = 0 := by omega
  unfold shl; rw [e, pw_zero, if_pos h1]
theorem shl_zero (n : Int) : shl 0 n = 0 := by unfold shl; rw [pw_zero_left]; rfl
theorem shl_fits {a n : Int} (h : pw a n.toNat ≤ 18446744073709551615) : shl a n = pw a n.toNat := by unfold shl; rw [if_pos h]
theorem shl_over {a n : Int} (h : 18446744073709551615 < pw a n.toNat) : shl a n = 18446744073709551615 := by unfold shl; rw [if_neg (by omega)]
theorem shl_at {a n : Int} {k : Nat} (h0 : 0 ≤ a) (hk : k ≤ n.toNat) (h : 18446744073709551615 ≤ pw a k) : shl a n = 18446744073709551615 := by
  have := pw_mono h0 hk
  unfold shl; split <;> omega
theorem shl_half {a n : Int} {k : Nat} (h0 : 0 ≤ a) (hk : k < n.toNat) (h : 9223372036854775807 < pw a k) : shl a n = 18446744073709551615 := by
  have h1 := pw_mono h0 (show k + 1 ≤ n.toNat from hk)
  rw [pw_succ] at h1
  unfold shl; split <;> omega

/-- What the number of bits says of a shift: with L bits, a shift by up to 64 - L fits, and no other. -/
theorem bits_bounds (a : Nat) (h0 : a ≠ 0) (h1 : a < 18446744073709551616) :
    1 ≤ Lib.bitLen a ∧ Lib.bitLen a ≤ 64 ∧ 2 ^ (Lib.bitLen a - 1) ≤ a ∧ a < 2 ^ Lib.bitLen a := by
  obtain ⟨p, q, r⟩ := Lib.bitLenAux_bounds 64 a (by omega) h0
  exact ⟨p, Lib.bitLen_le a 64 (Nat.le_refl _) (by omega), q, r⟩
theorem fits_of_bits (a n : Nat) (h0 : a ≠ 0) (h1 : a < 18446744073709551616) (hn : n + Lib.bitLen a ≤ 64) : a * 2 ^ n < 18446744073709551616 := by
  obtain ⟨p, q, r, s⟩ := bits_bounds a h0 h1
  have h2 : a * 2 ^ n < 2 ^ Lib.bitLen a * 2 ^ n := Nat.mul_lt_mul_of_pos_right s (Nat.pow_pos (by decide))
  have h3 : 2 ^ Lib.bitLen a * 2 ^ n ≤ 2 ^ 64 := by
    rw [← Nat.pow_add]; exact Nat.pow_le_pow_right (by decide) (by omega)
  omega
theorem over_of_bits (a n : Nat) (h0 : a ≠ 0) (h1 : a < 18446744073709551616) (hn : 64 < n + Lib.bitLen a) : 18446744073709551616 ≤ a * 2 ^ n := by
  obtain ⟨p, q, r, s⟩ := bits_bounds a h0 h1
  have h2 : 2 ^ (Lib.bitLen a - 1) * 2 ^ n ≤ a * 2 ^ n := Nat.mul_le_mul_right _ r
  have h3 : 2 ^ 64 ≤ 2 ^ (Lib.bitLen a - 1) * 2 ^ n := by
    rw [← Nat.pow_add]; exact Nat.pow_le_pow_right (by decide) (by omega)
  omega
theorem shl_bits_fits {a n : Int} (a0 : 0 < a) (a1 : a ≤ 18446744073709551615) (n0 : 0 ≤ n) (h : n ≤ 64 - (Lib.bitLen a.toNat : Int)) : pw a n.toNat ≤ 18446744073709551615 := by
  obtain ⟨A, rfl⟩ := Int.eq_ofNat_of_zero_le (Int.le_of_lt a0)
  rw [Int.toNat_natCast] at h
  have := fits_of_bits A n.toNat (by omega) (by omega) (by omega)
  rw [pw_nat]
  omega
theorem shl_bits_over {a n : Int} (a0 : 0 < a) (a1 : a ≤ 18446744073709551615) (n0 : 0 ≤ n) (h : n > 64 - (Lib.bitLen a.toNat : Int)) : 18446744073709551615 < pw a n.toNat := by
  obtain ⟨A, rfl⟩ := Int.eq_ofNat_of_zero_le (Int.le_of_lt a0)
  rw [Int.toNat_natCast] at h
  have := over_of_bits A n.toNat (by omega) (by omega) (by omega)
  rw [pw_nat]
  omega

/-- The test of the reference's product: b is greater than Top / a. -/
theorem mul_test {a b : Int} (a0 : 0 < a) : 18446744073709551615 / a < b ↔ 18446744073709551615 < a * b := by
  rw [Int.ediv_lt_iff_lt_mul a0, Int.mul_comm]
theorem mul_zero_left (b : Int) : mul 0 b = 0 := by unfold mul; rw [Int.zero_mul]; rfl
theorem mul_fits {a b : Int} (h : a * b ≤ 18446744073709551615) : mul a b = a * b := by unfold mul; rw [if_pos h]
theorem mul_over {a b : Int} (h : 18446744073709551615 < a * b) : mul a b = 18446744073709551615 := by unfold mul; rw [if_neg (by omega)]
end Go.Proofs.Ytbamdilihpnhjaa.Sat
