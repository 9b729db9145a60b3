/-
  The plain mathematics of chapter 3: cubes and cube roots of whole numbers. No program is named here.
-/
import Derived.Test.YtnnpklnhdfpnjaaWidePlain
set_option linter.unusedSimpArgs false
set_option linter.unusedVariables false
namespace Go.Proofs.Ytnnpklnhdfpnjaa.Root
set_option linter.unusedVariables false
open Go.Proofs.Ytnnpklnhdfpnjaa.Wide

/-- The cube. -/
def cub (r : Int) : Int := r * r * r
theorem cub_le {r s : Int} (h0 : 0 ≤ r) (h : r ≤ s) : cub r ≤ cub s := by
  have h1 : r * r ≤ s * s := Int.mul_le_mul h h h0 (by omega)
  exact Int.mul_le_mul h1 h h0 (Int.mul_nonneg (by omega) (by omega))
theorem cub_lt {r s : Int} (h0 : 0 ≤ r) (h : r < s) : cub r < cub s := by
  have h1 : cub (r + 1) ≤ cub s := cub_le (by omega) (by omega)
  have h2 : cub r < cub (r + 1) := by
    have e : cub (r + 1) = cub r + (3 * (r * r) + 3 * r + 1) := by unfold cub; grind
    have := Int.mul_nonneg h0 h0
    omega
  omega
theorem cub_nonneg {r : Int} (h0 : 0 ≤ r) : 0 ≤ cub r := Int.mul_nonneg (Int.mul_nonneg h0 h0) h0
theorem le_of_cub {r s : Int} (h0 : 0 ≤ s) (h : cub r ≤ cub s) : r ≤ s := by
  apply Int.not_lt.mp
  intro hc
  have := cub_lt h0 hc
  omega
theorem lt_of_cub {r s : Int} (h0 : 0 ≤ s) (h : cub r < cub s) : r < s := by
  apply Int.not_le.mp
  intro hc
  have := cub_le h0 hc
  omega
theorem cub_43 {r : Int} (h : 8796093022208 ≤ r) : 680564733841876926926749214863536422912 ≤ cub r :=
  cub_le (r := 8796093022208) (by decide) h
theorem cub_small {r : Int} (h0 : 0 ≤ r) (h : r ≤ 8796093022208) : cub r ≤ 680564733841876926926749214863536422912 :=
  cub_le (s := 8796093022208) h0 h

/-- The parts of a cube, as two products of words give them. -/
theorem parts (r : Int) (r0 : 0 ≤ r) (r1 : r ≤ 18446744073709551615) :
    ∃ a b : Int, a = r * r / 18446744073709551616 * r ∧ b = r * r % 18446744073709551616 * r ∧ 0 ≤ a ∧ 0 ≤ b ∧ cub r = a * 18446744073709551616 + b := by
  have q0 := Int.mul_nonneg r0 r0
  refine ⟨_, _, rfl, rfl, Int.mul_nonneg (by omega) r0, Int.mul_nonneg (by omega) r0, ?_⟩
  have e : r * r = r * r / 18446744073709551616 * 18446744073709551616 + r * r % 18446744073709551616 := by omega
  unfold cub
  generalize r * r / 18446744073709551616 = x at *
  generalize r * r % 18446744073709551616 = y at *
  rw [e]
  grind

/-- The six words that the two products of the square with r have. -/
theorem six (r : Int) (r0 : 0 ≤ r) (r1 : r ≤ 18446744073709551615) :
    ∃ s t ov up mi lo : Int, r * r / 18446744073709551616 = s ∧ r * r % 18446744073709551616 = t ∧ s * r / 18446744073709551616 = ov ∧ s * r % 18446744073709551616 = up ∧ t * r / 18446744073709551616 = mi ∧ t * r % 18446744073709551616 = lo ∧
      (0 ≤ s ∧ s ≤ 18446744073709551615) ∧ (0 ≤ t ∧ t ≤ 18446744073709551615) ∧ (0 ≤ ov ∧ ov ≤ 18446744073709551615) ∧ (0 ≤ up ∧ up ≤ 18446744073709551615) ∧ (0 ≤ mi ∧ mi ≤ 18446744073709551615) ∧ (0 ≤ lo ∧ lo ≤ 18446744073709551615) ∧
      cub r = ((ov * 18446744073709551616 + up) + mi) * 18446744073709551616 + lo := by
  obtain ⟨a, b, ea, eb, a0, b0, e⟩ := parts r r0 r1
  have hq := times_le r0 r1 r0 (Int.le_refl r) r1
  have q0 := Int.mul_nonneg r0 r0
  have hs := times_le (a := r * r / 18446744073709551616) (by omega) (by omega) r0 (Int.le_refl r) r1
  have ht := times_le (a := r * r % 18446744073709551616) (by omega) (by omega) r0 (Int.le_refl r) r1
  refine ⟨_, _, _, _, _, _, rfl, rfl, rfl, rfl, rfl, rfl, by omega, by omega, ?_⟩
  rw [← ea] at hs ⊢
  rw [← eb] at ht ⊢
  omega

/-- r is the cube root of n, rounded down. -/
def IsRoot (n r : Int) : Prop := 0 ≤ r ∧ r < 8796093022208 ∧ cub r ≤ n ∧ n < cub (r + 1)
theorem root_le {n m r s : Int} (h : IsRoot n r) (k : IsRoot m s) (hn : n ≤ m) : r ≤ s := by
  obtain ⟨r0, r1, r2, r3⟩ := h
  obtain ⟨s0, s1, s2, s3⟩ := k
  have := lt_of_cub (r := r) (s := s + 1) (by omega) (by omega)
  omega
theorem root_one {n r s : Int} (h : IsRoot n r) (k : IsRoot n s) : r = s := by
  have := root_le h k (Int.le_refl n)
  have := root_le k h (Int.le_refl n)
  omega

/-- What the search knows ahead of the bit k: every bit above it is settled. -/
def RootAt (n r k : Int) : Prop :=
  0 ≤ r ∧ r + 2 ^ (k + 1).toNat ≤ 17592186044416 ∧ (∃ m : Int, 0 ≤ m ∧ r = m * 2 ^ (k + 1).toNat) ∧ cub r ≤ n ∧ n < cub (r + 2 ^ (k + 1).toNat)
theorem root_start43 {n : Int} (n0 : 0 ≤ n) (n1 : n < 340282366920938463463374607431768211456) : RootAt n 0 42 := by
  refine ⟨by omega, by decide, ⟨0, by omega, by decide⟩, n0, ?_⟩
  have := cub_43 (r := 0 + 2 ^ (42 + 1 : Int).toNat) (by decide)
  omega
theorem root_start44 {n : Int} (n0 : 0 ≤ n) (n1 : n < 340282366920938463463374607431768211456) : RootAt n 0 43 := by
  refine ⟨by omega, by decide, ⟨0, by omega, by decide⟩, n0, ?_⟩
  have := cub_43 (r := 0 + 2 ^ (43 + 1 : Int).toNat) (by decide)
  omega
theorem root_end {n r k : Int} (hk : k < 0) (k0 : -1 ≤ k) (n1 : n < 340282366920938463463374607431768211456) (H : RootAt n r k) : IsRoot n r := by
  obtain ⟨r0, r1, -, r2, r3⟩ := H
  obtain rfl : k = -1 := by omega
  have e : (2 : Int) ^ (-1 + 1 : Int).toNat = 1 := by decide
  rw [e] at r3
  refine ⟨r0, ?_, r2, r3⟩
  apply Int.not_le.mp
  intro hc
  have := cub_43 hc
  omega
theorem two_step {k : Int} (hk : 0 ≤ k) : (2 : Int) ^ (k + 1).toNat = 2 ^ k.toNat * 2 := by
  have e2 : (k + 1).toNat = k.toNat + 1 := by omega
  rw [e2, Int.pow_succ]
/-- The bit k, put above what is settled. -/
theorem root_bit {n r k : Int} (hk : 0 ≤ k) (H : RootAt n r k) :
    bits .or .u64 r (IntKind.u64.wrap (2 ^ k.toNat)) = r + 2 ^ k.toNat ∧ 0 ≤ r + 2 ^ k.toNat ∧ r + 2 ^ k.toNat ≤ 17592186044416 := by
  obtain ⟨r0, r1, ⟨m, m0, rfl⟩, -, -⟩ := H
  have hp : (0 : Int) < 2 ^ k.toNat := Int.pow_pos (by decide)
  have e := two_step hk
  refine ⟨?_, by omega, by omega⟩
  rw [show IntKind.u64.wrap (2 ^ k.toNat) = 2 ^ k.toNat by rw [u64_mod]; omega]
  have hs : (k + 1).toNat = k.toNat + 1 := by omega
  rw [hs] at r1 e ⊢
  exact or_low (k.toNat + 1) m (2 ^ k.toNat) m0 (by omega) (by omega) (by omega)
theorem root_take {n r k : Int} (hk : 0 ≤ k) (H : RootAt n r k) (h : cub (r + 2 ^ k.toNat) ≤ n) : RootAt n (r + 2 ^ k.toNat) (k - 1) := by
  obtain ⟨r0, r1, ⟨m, m0, em⟩, r2, r3⟩ := H
  have hp : (0 : Int) < 2 ^ k.toNat := Int.pow_pos (by decide)
  have e := two_step hk
  have e1 : (k - 1 + 1).toNat = k.toNat := by omega
  unfold RootAt
  rw [e1]
  refine ⟨by omega, by omega, ⟨m * 2 + 1, by omega, ?_⟩, h, ?_⟩
  · rw [em, e]
    generalize (2 : Int) ^ k.toNat = p
    grind
  · rw [e] at r3
    rw [show r + 2 ^ k.toNat + 2 ^ k.toNat = r + 2 ^ k.toNat * 2 by omega]
    exact r3
theorem root_leave {n r k : Int} (hk : 0 ≤ k) (H : RootAt n r k) (h : ¬ cub (r + 2 ^ k.toNat) ≤ n) : RootAt n r (k - 1) := by
  obtain ⟨r0, r1, ⟨m, m0, em⟩, r2, r3⟩ := H
  have hp : (0 : Int) < 2 ^ k.toNat := Int.pow_pos (by decide)
  have e := two_step hk
  have e1 : (k - 1 + 1).toNat = k.toNat := by omega
  unfold RootAt
  rw [e1]
  refine ⟨r0, by omega, ⟨m * 2, by omega, ?_⟩, r2, by omega⟩
  rw [em, e]
  generalize (2 : Int) ^ k.toNat = p
  grind
end Go.Proofs.Ytnnpklnhdfpnjaa.Root
