/-
  Plain facts on the mixing of 64-bit numbers and on lowest bits. Nothing here names a program.
-/
import Derived.Laws.Bits64
import Derived.Laws.Bits64b
import Derived.Lib.Hide
namespace Go.Proofs.Ytffdpamhflhfpaa.DrawPlain
set_option linter.unusedVariables false

def z1 (k : Int) : Int := IntKind.u64.wrap (IntKind.u64.wrap (k + 1) * 11400714819323198485)
def z2 (x : Int) : Int := IntKind.u64.wrap (bits .xor .u64 x (x / 1073741824) * 13787848793156543929)
def z3 (x : Int) : Int := IntKind.u64.wrap (bits .xor .u64 x (x / 134217728) * 10723151780598845931)
def z4 (x : Int) : Int := bits .xor .u64 x (x / 2147483648)
/-- What the number k is mixed to. -/
def mix (k : Int) : Int := z4 (z3 (z2 (z1 k)))

theorem wrap_bd (a : Int) : 0 ≤ IntKind.u64.wrap a ∧ IntKind.u64.wrap a ≤ 18446744073709551615 := by rw [IntKind.wrap_u64]; omega
theorem z1_bd (k : Int) : 0 ≤ z1 k ∧ z1 k ≤ 18446744073709551615 := wrap_bd _
theorem z2_bd (k : Int) : 0 ≤ z2 k ∧ z2 k ≤ 18446744073709551615 := wrap_bd _
theorem z3_bd (k : Int) : 0 ≤ z3 k ∧ z3 k ≤ 18446744073709551615 := wrap_bd _

/-- x, and x with itself moved s bits down: for numbers below 2^64 the sum of bits tells x. -/
theorem shifted_lt (X s : Nat) (hX : X < 18446744073709551616) : X ^^^ X / s < 18446744073709551616 :=
  Nat.xor_lt_two_pow (n := 64) hX (Nat.lt_of_le_of_lt (Nat.div_le_self _ _) hX)
theorem shift_inj (s : Nat) {x y : Nat} (hs : 0 < s) (h : x ^^^ x / 2 ^ s = y ^^^ y / 2 ^ s) : x = y := by
  rw [← Nat.shiftRight_eq_div_pow, ← Nat.shiftRight_eq_div_pow] at h
  have h2 : (x ^^^ y) = (x ^^^ y) >>> s := by
    rw [Nat.shiftRight_xor_distrib]
    have := congrArg (fun t => t ^^^ (x >>> s) ^^^ y) h
    rw [Nat.xor_assoc x, Nat.xor_self, Nat.xor_zero] at this
    rw [this]
    rw [Nat.xor_comm y (y >>> s), Nat.xor_assoc (y >>> s), Nat.xor_comm y, Nat.xor_assoc, Nat.xor_assoc, Nat.xor_self, Nat.xor_zero, Nat.xor_comm]
  have h3 : (x ^^^ y) = 0 := by
    rcases Nat.eq_zero_or_pos (x ^^^ y) with h0 | h0
    · exact h0
    · rw [Nat.shiftRight_eq_div_pow] at h2
      have := Nat.div_lt_self h0 (Nat.one_lt_two_pow (n := s) (by omega))
      omega
  have := congrArg (fun t => t ^^^ y) h3
  simp only [Nat.xor_assoc, Nat.xor_self, Nat.xor_zero, Nat.zero_xor] at this
  exact this
theorem xs_of (s : Nat) {x : Int} (x0 : 0 ≤ x) (x1 : x ≤ 18446744073709551615) (d : Int) (hd : d = ((2 ^ s : Nat) : Int)) : ∃ X : Nat, x = X ∧ X < 18446744073709551616 ∧ bits .xor .u64 x (x / d) = ((X ^^^ X / 2 ^ s : Nat) : Int) := by
  obtain ⟨X, rfl⟩ := Int.eq_ofNat_of_zero_le x0
  subst hd
  exact ⟨X, rfl, by omega, xorShift_u64 X (2 ^ s) (by omega)⟩
theorem xs_bd (s : Nat) {x : Int} (x0 : 0 ≤ x) (x1 : x ≤ 18446744073709551615) (d : Int) (hd : d = ((2 ^ s : Nat) : Int)) : 0 ≤ bits .xor .u64 x (x / d) ∧ bits .xor .u64 x (x / d) ≤ 18446744073709551615 := by
  obtain ⟨X, rfl, hX, e⟩ := xs_of s x0 x1 d hd
  rw [e]
  have := shifted_lt X (2 ^ s) hX
  omega
theorem xs_inj (s : Nat) (hs : 0 < s) {x y : Int} (x0 : 0 ≤ x) (x1 : x ≤ 18446744073709551615) (y0 : 0 ≤ y) (y1 : y ≤ 18446744073709551615) (d : Int) (hd : d = ((2 ^ s : Nat) : Int))
    (h : bits .xor .u64 x (x / d) = bits .xor .u64 y (y / d)) : x = y := by
  obtain ⟨X, rfl, _, e⟩ := xs_of s x0 x1 d hd
  obtain ⟨Y, rfl, _, f⟩ := xs_of s y0 y1 d hd
  rw [e, f] at h
  exact Int.natCast_inj.2 (shift_inj s hs (Int.natCast_inj.1 h))
/-- A factor that has an inverse modulo 2^64 keeps numbers apart. -/
theorem mul_inj (c i : Int) (hc : c * i % 18446744073709551616 = 1) {x y : Int} (x0 : 0 ≤ x) (x1 : x ≤ 18446744073709551615) (y0 : 0 ≤ y) (y1 : y ≤ 18446744073709551615)
    (h : x * c % 18446744073709551616 = y * c % 18446744073709551616) : x = y := by
  have e : ∀ z : Int, 0 ≤ z → z ≤ 18446744073709551615 → z * c % 18446744073709551616 * i % 18446744073709551616 = z := by
    intro z z0 z1
    rw [Int.mul_emod, Int.emod_emod_of_dvd _ (Int.dvd_refl _), ← Int.mul_emod, Int.mul_assoc, Int.mul_emod, hc, Int.mul_one, Int.emod_emod_of_dvd _ (Int.dvd_refl _)]
    omega
  rw [← e x x0 x1, h, e y y0 y1]
theorem z4_bd {x : Int} (x0 : 0 ≤ x) (x1 : x ≤ 18446744073709551615) : 0 ≤ z4 x ∧ z4 x ≤ 18446744073709551615 := xs_bd 31 x0 x1 _ (by decide +kernel)
theorem mix_bd (k : Int) : 0 ≤ mix k ∧ mix k ≤ 18446744073709551615 := z4_bd (z3_bd _).1 (z3_bd _).2
theorem mix_inj {a b : Int} (a0 : 0 ≤ a) (a1 : a ≤ 18446744073709551615) (b0 : 0 ≤ b) (b1 : b ≤ 18446744073709551615) : (mix a == mix b) = (a == b) := by
  suffices h : mix a = mix b → a = b by
    rw [Bool.eq_iff_iff]
    simp only [beq_iff_eq]
    exact ⟨h, fun e => e ▸ rfl⟩
  intro h
  have h3 := xs_inj 31 (by decide +kernel) (z3_bd _).1 (z3_bd _).2 (z3_bd _).1 (z3_bd _).2 _ (by decide +kernel) h
  unfold z3 at h3
  rw [IntKind.wrap_u64, IntKind.wrap_u64] at h3
  have p2 := z2_bd (z1 a)
  have q2 := z2_bd (z1 b)
  have e3 := xs_bd 27 p2.1 p2.2 134217728 (by decide +kernel)
  have f3 := xs_bd 27 q2.1 q2.2 134217728 (by decide +kernel)
  have h2 := xs_inj 27 (by decide +kernel) p2.1 p2.2 q2.1 q2.2 _ (by decide +kernel) (mul_inj 10723151780598845931 3573116690164977347 (by decide +kernel) e3.1 e3.2 f3.1 f3.2 h3)
  unfold z2 at h2
  rw [IntKind.wrap_u64, IntKind.wrap_u64] at h2
  have p1 := z1_bd a
  have q1 := z1_bd b
  have e2 := xs_bd 30 p1.1 p1.2 1073741824 (by decide +kernel)
  have f2 := xs_bd 30 q1.1 q1.2 1073741824 (by decide +kernel)
  have h1 := xs_inj 30 (by decide +kernel) p1.1 p1.2 q1.1 q1.2 _ (by decide +kernel) (mul_inj 13787848793156543929 10871156337175269513 (by decide +kernel) e2.1 e2.2 f2.1 f2.2 h2)
  unfold z1 at h1
  rw [IntKind.wrap_u64, IntKind.wrap_u64] at h1
  have h0 := mul_inj 11400714819323198485 17428512612931826493 (by decide +kernel) (wrap_bd _).1 (wrap_bd _).2 (wrap_bd _).1 (wrap_bd _).2 h1
  rw [IntKind.wrap_u64, IntKind.wrap_u64] at h0
  clear h1 h2 h3 e2 f2 e3 f3 p1 q1 p2 q2 h
  omega
theorem ex_mix : mix 0 = 16294208416658607535 := by decide +kernel

/-- The lowest n bits of x. -/
def low (x n : Int) : Int := if n < 1 then 0 else if 63 < n then x else x % 2 ^ n.toNat
theorem and_low {x n : Int} (x0 : 0 ≤ x) (x1 : x ≤ 18446744073709551615) (n1 : 1 ≤ n) (n2 : n ≤ 63) : bits .and .u64 x (IntKind.u64.wrap (IntKind.u64.wrap (2 ^ n.toNat) - 1)) = x % 2 ^ n.toNat := by
  obtain ⟨X, rfl⟩ := Int.eq_ofNat_of_zero_le x0
  have hp : (2 : Nat) ^ n.toNat ≤ 2 ^ 63 := Nat.pow_le_pow_right (by decide +kernel) (by omega)
  have h1 : 1 ≤ (2 : Nat) ^ n.toNat := Nat.one_le_two_pow
  have e : IntKind.u64.wrap (IntKind.u64.wrap (2 ^ n.toNat) - 1) = ((2 ^ n.toNat - 1 : Nat) : Int) := by
    have : (2 : Int) ^ n.toNat = ((2 ^ n.toNat : Nat) : Int) := by simp
    rw [IntKind.wrap_u64, IntKind.wrap_u64, this]
    omega
  rw [e, bits_and_u64_nat _ _ (by omega) (by omega), Nat.and_two_pow_sub_one_eq_mod]
  simp
theorem and_all {x : Int} (x0 : 0 ≤ x) (x1 : x ≤ 18446744073709551615) : bits .and .u64 x 18446744073709551615 = x := by
  obtain ⟨X, rfl⟩ := Int.eq_ofNat_of_zero_le x0
  have := bits_and_u64_nat X 18446744073709551615 (by omega) (by omega)
  rw [show X &&& 18446744073709551615 = X % 18446744073709551616 from Nat.and_two_pow_sub_one_eq_mod X 64] at this
  rw [show (18446744073709551615 : Int) = ((18446744073709551615 : Nat) : Int) from rfl, this]
  omega
theorem two_pos (n : Nat) : (0 : Int) < 2 ^ n := Int.pow_pos (by decide +kernel)
theorem low_bd {x n : Int} (x0 : 0 ≤ x) (x1 : x ≤ 18446744073709551615) : 0 ≤ low x n ∧ low x n ≤ x := by
  unfold low
  split
  · omega
  · split
    · omega
    · have := two_pos n.toNat
      obtain ⟨X, rfl⟩ := Int.eq_ofNat_of_zero_le x0
      rw [show (X : Int) % 2 ^ n.toNat = ((X % 2 ^ n.toNat : Nat) : Int) by simp]
      have := Nat.mod_le X (2 ^ n.toNat)
      omega
theorem low_lt {x n : Int} (x0 : 0 ≤ x) (n0 : 0 ≤ n) (n1 : n ≤ 63) : low x n < 2 ^ n.toNat := by
  have := two_pos n.toNat
  unfold low
  split
  · omega
  · rw [if_neg (by omega)]
    exact Int.emod_lt_of_pos _ this
theorem low_low {x m n : Int} (x0 : 0 ≤ x) (x1 : x ≤ 18446744073709551615) (m0 : 0 ≤ m) (n0 : 0 ≤ n) : low (low x m) n = low x (min m n) := by
  rcases Int.lt_or_le 63 m with hm | hm
  · rw [show low x m = x by unfold low; rw [if_neg (by omega), if_pos hm]]
    by_cases h : n ≤ m
    · rw [show min m n = n by omega]
    · rw [show min m n = m by omega]
      unfold low
      rw [if_neg (by omega), if_pos (by omega), if_neg (by omega), if_pos (by omega)]
  · by_cases h : n ≤ m
    · rw [show min m n = n by omega]
      unfold low
      by_cases h1 : n < 1
      · rw [if_pos h1, if_pos h1]
      · rw [if_neg h1, if_neg (show ¬ 63 < n by omega), if_neg (show ¬ m < 1 by omega), if_neg (show ¬ 63 < m by omega), if_neg h1, if_neg (show ¬ 63 < n by omega)]
        refine Int.emod_emod_of_dvd _ ?_
        have := Int.natCast_dvd_natCast.2 (Nat.pow_dvd_pow 2 (show n.toNat ≤ m.toNat by omega))
        simpa using this
    · rw [show min m n = m by omega]
      have hb := low_lt (x := x) (n := m) x0 m0 hm
      have hz := low_bd (n := m) x0 x1
      generalize low x m = y at hb hz
      unfold low
      rw [if_neg (by omega)]
      split
      · rfl
      · refine Int.emod_eq_of_lt hz.1 (Int.lt_of_lt_of_le hb ?_)
        exact_mod_cast Nat.pow_le_pow_right (show 0 < 2 by decide) (show m.toNat ≤ n.toNat by omega)
theorem low_all {x m : Int} (h : 63 < m) : low x m = x := by unfold low; rw [if_neg (by omega), if_pos h]
theorem ex_low : low 255 4 = 15 := by decide +kernel
def coin (x : Int) : Bool := x / 9223372036854775808 == 1
def skips (x one : Int) : Bool := decide (0 < one) && (x % one == 0)
theorem ex_coin : coin 9223372036854775808 = true := by decide +kernel
theorem ex_skips : skips 6 3 = true := by decide +kernel
theorem ex_skips0 : skips 6 0 = false := by decide +kernel
end Go.Proofs.Ytffdpamhflhfpaa.DrawPlain
