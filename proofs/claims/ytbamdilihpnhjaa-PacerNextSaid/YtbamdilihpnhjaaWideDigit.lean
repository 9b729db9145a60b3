/-
  The plain mathematics of math/bits.Div64 (Knuth's algorithm D with two digits of 32 bits) and of the reference's division bit by bit. No program is named here.
-/
import Derived.Test.YtbamdilihpnhjaaWidePlain
set_option linter.unusedSimpArgs false
set_option linter.unusedVariables false
namespace Go.Proofs.Ytbamdilihpnhjaa.Wide
set_option linter.unusedVariables false

/-- A guess q of the digit of u, c by the halves y1, y0; r is what it leaves of u. -/
def Dig (u c y1 y0 q r : Int) : Prop :=
  0 ≤ q ∧ q ≤ 4294967297 ∧ 0 ≤ r ∧ r ≤ 4294967295 ∧ u = q * y1 + r ∧ u * 4294967296 + c < (q + 1) * (y1 * 4294967296 + y0)

theorem mul_parts (q y1 y0 : Int) : q * (y1 * 4294967296 + y0) = q * y1 * 4294967296 + q * y0 := by
  rw [Int.mul_add, Int.mul_assoc]
theorem succ_parts (q y : Int) : (q + 1) * y = q * y + y := by rw [Int.add_mul, Int.one_mul]
theorem pred_parts (q y : Int) : (q - 1) * y = q * y - y := by rw [Int.sub_mul, Int.one_mul]

theorem dig_start {u c y1 y0 : Int} (hy : 2147483648 ≤ y1) (hy' : y1 ≤ 4294967295) (y00 : 0 ≤ y0) (y01 : y0 ≤ 4294967295) (c1 : c ≤ 4294967295) (u0 : 0 ≤ u)
    (hu : u < y1 * 4294967296 + y0) : Dig u c y1 y0 (u / y1) (u % y1) := by
  have e := Int.mul_ediv_add_emod u y1
  have r0 := Int.emod_nonneg u (b := y1) (by omega)
  have r1 := Int.emod_lt_of_pos u (b := y1) (by omega)
  have q0 : 0 ≤ u / y1 := Int.ediv_nonneg u0 (by omega)
  rw [Int.mul_comm] at e
  generalize u / y1 = q at *
  generalize u % y1 = r at *
  have p0 : 0 ≤ q * y0 := Int.mul_nonneg q0 y00
  have hq : q ≤ 4294967297 := by
    apply Int.le_of_not_gt
    intro h
    have : 4294967298 * y1 ≤ q * y1 := Int.mul_le_mul_of_nonneg_right (by omega) (by omega)
    omega
  refine ⟨q0, hq, r0, by omega, by omega, ?_⟩
  rw [succ_parts, mul_parts]
  omega
/-- The guess is too large. -/
def Big (c y0 q r : Int) : Prop := 4294967296 ≤ q ∨ r * 4294967296 + c < q * y0
theorem big_over {u c y1 y0 q r : Int} (y00 : 0 ≤ y0) (c1 : c ≤ 4294967295) (hy : 0 ≤ y1) (hu : u < y1 * 4294967296 + y0) (D : Dig u c y1 y0 q r) (B : Big c y0 q r) :
    u * 4294967296 + c < q * (y1 * 4294967296 + y0) := by
  obtain ⟨q0, q1, r0, r1, e, hx⟩ := D
  rcases B with B | B
  · have : 4294967296 * (y1 * 4294967296 + y0) ≤ q * (y1 * 4294967296 + y0) := Int.mul_le_mul_of_nonneg_right B (by omega)
    omega
  · rw [mul_parts]; omega
theorem big_pos {u c y1 y0 q r : Int} (c0 : 0 ≤ c) (D : Dig u c y1 y0 q r) (B : Big c y0 q r) : 1 ≤ q := by
  obtain ⟨q0, q1, r0, r1, e, hx⟩ := D
  rcases B with B | B
  · omega
  · apply Int.le_of_not_gt
    intro h
    obtain rfl : q = 0 := by omega
    omega
theorem dig_dec {u c y1 y0 q r : Int} (y00 : 0 ≤ y0) (c0 : 0 ≤ c) (c1 : c ≤ 4294967295) (hy : 0 ≤ y1) (hu : u < y1 * 4294967296 + y0) (D : Dig u c y1 y0 q r) (B : Big c y0 q r) (hr : r + y1 < 4294967296) :
    Dig u c y1 y0 (q - 1) (r + y1) := by
  have h := big_over y00 c1 hy hu D B
  have hp := big_pos c0 D B
  obtain ⟨q0, q1, r0, r1, e, hx⟩ := D
  refine ⟨by omega, by omega, by omega, by omega, by rw [pred_parts]; omega, ?_⟩
  rw [show q - 1 + 1 = q by omega]
  exact h
theorem dig_broke {u c y1 y0 q r : Int} (y00 : 0 ≤ y0) (y01 : y0 ≤ 4294967295) (c0 : 0 ≤ c) (c1 : c ≤ 4294967295) (hy : 2147483648 ≤ y1) (hu : u < y1 * 4294967296 + y0) (D : Dig u c y1 y0 q r) (B : Big c y0 q r)
    (hr : 4294967296 ≤ r + y1) : q - 1 = (u * 4294967296 + c) / (y1 * 4294967296 + y0) := by
  have h := big_over y00 c1 (by omega) hu D B
  have hp := big_pos c0 D B
  obtain ⟨q0, q1, r0, r1, e, hx⟩ := D
  have hY : 0 < y1 * 4294967296 + y0 := by omega
  have hb : (q - 1) * y0 ≤ 4294967296 * 4294967295 := by
    have h1 : (q - 1) * y0 ≤ 4294967296 * y0 := Int.mul_le_mul_of_nonneg_right (by omega) y00
    omega
  have hl : (q - 1) * (y1 * 4294967296 + y0) ≤ u * 4294967296 + c := by
    rw [mul_parts, pred_parts q y1]
    omega
  have h1 := Int.le_ediv_of_mul_le hY hl
  have h2 := Int.ediv_lt_of_lt_mul hY h
  omega
theorem dig_held {u c y1 y0 q r : Int} (y00 : 0 ≤ y0) (hy : 2147483648 ≤ y1) (D : Dig u c y1 y0 q r) (B : q * y0 ≤ r * 4294967296 + c) :
    q = (u * 4294967296 + c) / (y1 * 4294967296 + y0) := by
  obtain ⟨q0, q1, r0, r1, e, hx⟩ := D
  have hY : 0 < y1 * 4294967296 + y0 := by omega
  have hl : q * (y1 * 4294967296 + y0) ≤ u * 4294967296 + c := by
    rw [mul_parts]
    omega
  have h1 := Int.le_ediv_of_mul_le hY hl
  have h2 := Int.ediv_lt_of_lt_mul hY hx
  omega

/-- What is left of a division, as the words have it. -/
theorem rem_wrap (u y : Int) (u1 : u ≤ 18446744073709551615) (u0 : 0 ≤ u) (y0 : 0 < y) (y1 : y ≤ 18446744073709551615) : IntKind.u64.wrap (u - IntKind.u64.wrap (u / y * y)) = u % y := by
  have e := Int.mul_ediv_add_emod u y
  have r0 := Int.emod_nonneg u (b := y) (by omega)
  have r1 := Int.emod_lt_of_pos u (b := y) (by omega)
  rw [Int.mul_comm] at e
  simp only [u64_mod]
  have : 0 ≤ u / y * y := Int.mul_nonneg (Int.ediv_nonneg u0 (by omega)) (by omega)
  generalize u / y * y = p at *
  omega
theorem rem_wide (x y : Int) (y0 : 0 < y) (y1 : y ≤ 18446744073709551615) : (x % 18446744073709551616 - x / y * y % 18446744073709551616) % 18446744073709551616 = x % y := by
  have e := Int.mul_ediv_add_emod x y
  have r0 := Int.emod_nonneg x (b := y) (by omega)
  have r1 := Int.emod_lt_of_pos x (b := y) (by omega)
  rw [Int.mul_comm] at e
  generalize x / y * y = p at *
  omega

/-- Both digits together. -/
theorem two_digits (n y : Int) (y0 : 0 < y) :
    n / y = n / 4294967296 / y * 4294967296 + (n / 4294967296 % y * 4294967296 + n % 4294967296) / y ∧ n % y = (n / 4294967296 % y * 4294967296 + n % 4294967296) % y := by
  have e := Int.mul_ediv_add_emod (n / 4294967296) y
  have e2 := Int.mul_ediv_add_emod n 4294967296
  have h : n = (n / 4294967296 % y * 4294967296 + n % 4294967296) + y * (n / 4294967296 / y * 4294967296) := by
    rw [← Int.mul_assoc]
    generalize y * (n / 4294967296 / y) = p at *
    omega
  constructor
  · rw [Int.add_comm (n / 4294967296 / y * 4294967296), ← Int.add_mul_ediv_left _ _ (by omega : y ≠ 0), ← h]
  · conv => lhs; rw [h]
    rw [Int.add_mul_emod_self_left]
theorem scaled (n y p : Int) (p0 : 0 < p) : (n * p) / (y * p) = n / y ∧ (n * p) % (y * p) = n % y * p := by
  refine ⟨Int.mul_ediv_mul_of_pos_left n y p0, ?_⟩
  rw [Int.mul_comm n, Int.mul_comm y, Int.mul_emod_mul_of_pos _ _ p0, Int.mul_comm]

/-- The shift that brings a divisor's first bit to the top. -/
def nz (y : Int) : Int := 64 - (Lib.bitLen y.toNat : Int)
theorem nz_facts {y : Int} (y0 : 0 < y) (y1 : y ≤ 18446744073709551615) :
    0 ≤ nz y ∧ nz y ≤ 63 ∧ 9223372036854775808 ≤ y * 2 ^ (nz y).toNat ∧ y * 2 ^ (nz y).toNat ≤ 18446744073709551615 := by
  obtain ⟨Y, rfl⟩ := Int.eq_ofNat_of_zero_le (Int.le_of_lt y0)
  obtain ⟨p, q, r⟩ := Lib.bitLenAux_bounds 64 Y (by omega) (by omega)
  have hb := Lib.bitLen_le Y 64 (Nat.le_refl _) (by omega)
  have hp : 1 ≤ Lib.bitLen Y := p
  have hq : 2 ^ (Lib.bitLen Y - 1) ≤ Y := q
  have hr : Y < 2 ^ Lib.bitLen Y := r
  unfold nz
  rw [Int.toNat_natCast]
  generalize Lib.bitLen Y = L at *
  have e : ((64 - (L : Int))).toNat = 64 - L := by omega
  rw [e, show ((Y : Int) * 2 ^ (64 - L)) = ((Y * 2 ^ (64 - L) : Nat) : Int) by rw [Int.natCast_mul, Int.natCast_pow]; rfl]
  have h1 : 2 ^ (L - 1) * 2 ^ (64 - L) ≤ Y * 2 ^ (64 - L) := Nat.mul_le_mul_right _ hq
  have h2 : Y * 2 ^ (64 - L) < 2 ^ L * 2 ^ (64 - L) := Nat.mul_lt_mul_of_pos_right hr (Nat.pow_pos (by decide))
  rw [← Nat.pow_add, show L - 1 + (64 - L) = 63 by omega] at h1
  rw [← Nat.pow_add, show L + (64 - L) = 64 by omega] at h2
  refine ⟨by omega, by omega, by omega, by omega⟩
theorem pow_split (s : Nat) (hs : s ≤ 64) : (2 : Int) ^ s * 2 ^ (64 - s) = 18446744073709551616 := by
  rw [← Int.pow_add, show s + (64 - s) = 64 by omega]; decide
/-- The upper word of what is divided, shifted. -/
theorem high_word (hi lo : Int) (s : Nat) (hs : s ≤ 64) : (hi * 18446744073709551616 + lo) * 2 ^ s / 18446744073709551616 = hi * 2 ^ s + lo / 2 ^ (64 - s) := by
  have hp : (0 : Int) < 2 ^ s := Int.pow_pos (by decide)
  have e : (hi * 18446744073709551616 + lo) * 2 ^ s = hi * 2 ^ s * 18446744073709551616 + lo * 2 ^ s := by
    rw [Int.add_mul, Int.mul_right_comm]
  rw [e, Int.add_comm, Int.add_mul_ediv_right _ _ (by decide), Int.add_comm]
  congr 1
  rw [← pow_split s hs, Int.mul_comm lo, Int.mul_ediv_mul_of_pos _ _ hp]
/-- The words that the shift makes, as the walk writes them. -/
theorem shifted (hi lo y s : Int) (h0 : 0 ≤ hi) (hy : hi < y) (l0 : 0 ≤ lo) (l1 : lo ≤ 18446744073709551615) (s0 : 0 ≤ s) (s1 : s ≤ 63) (t1 : y * 2 ^ s.toNat ≤ 18446744073709551615) :
    ∃ u c : Int, bits .or .u64 (IntKind.u64.wrap (hi * 2 ^ s.toNat)) (lo / 2 ^ (64 - s).toNat) = u ∧ IntKind.u64.wrap (lo * 2 ^ s.toNat) = c ∧ 0 ≤ u ∧ u < y * 2 ^ s.toNat ∧ 0 ≤ c ∧ c ≤ 18446744073709551615 ∧
      (hi * 18446744073709551616 + lo) * 2 ^ s.toNat = u * 18446744073709551616 + c := by
  obtain ⟨k, rfl⟩ := Int.eq_ofNat_of_zero_le s0
  have e : (64 - (k : Int)).toNat = 64 - k := by omega
  rw [Int.toNat_natCast] at *
  rw [e]
  have hp : (0 : Int) < 2 ^ k := Int.pow_pos (by decide)
  have hw := high_word hi lo k (by omega)
  have hsp := pow_split k (by omega)
  have hd : 0 ≤ lo / 2 ^ (64 - k) := Int.ediv_nonneg l0 (Int.le_of_lt (Int.pow_pos (by decide)))
  have hlt : lo / 2 ^ (64 - k) < 2 ^ k := by
    apply Int.ediv_lt_of_lt_mul (Int.pow_pos (by decide))
    omega
  have hle : (hi + 1) * 2 ^ k ≤ y * 2 ^ k := Int.mul_le_mul_of_nonneg_right (by omega) (by omega)
  have hn : 0 ≤ hi * 2 ^ k := Int.mul_nonneg h0 (by omega)
  rw [Int.add_mul, Int.one_mul] at hle
  have hx : IntKind.u64.wrap (hi * 2 ^ k) = hi * 2 ^ k := IntWalk.u64_in _ ⟨hn, by omega⟩
  refine ⟨_, _, rfl, rfl, ?_⟩
  rw [hx, or_low k hi _ h0 hd hlt (by omega), u64_mod]
  have ha : (hi * 18446744073709551616 + lo) * 2 ^ k = hi * 2 ^ k * 18446744073709551616 + lo * 2 ^ k := by
    rw [Int.add_mul, Int.mul_right_comm]
  rw [ha] at hw ⊢
  generalize hi * 2 ^ k = a at *
  generalize lo * 2 ^ k = b at *
  generalize lo / 2 ^ (64 - k) = d at *
  refine ⟨by omega, by omega, by omega, by omega, by omega⟩
/-- The two digits and what is left of them are the quotient and the remainder. -/
theorem div_end {n y u c Y : Int} {s : Nat} (y0 : 0 < y) (e : Y = y * 2 ^ s) (h : n * 2 ^ s = u * 18446744073709551616 + c) (c0 : 0 ≤ c) (c1 : c ≤ 18446744073709551615) :
    (u * 4294967296 + c / 4294967296) / Y * 4294967296 + ((u * 4294967296 + c / 4294967296) % Y * 4294967296 + c % 4294967296) / Y = n / y ∧
    ((u * 4294967296 + c / 4294967296) % Y * 4294967296 + c % 4294967296) % Y / 2 ^ s = n % y := by
  have hp : (0 : Int) < 2 ^ s := Int.pow_pos (by decide)
  have hY : 0 < Y := by rw [e]; exact Int.mul_pos y0 hp
  obtain ⟨d1, d2⟩ := two_digits (n * 2 ^ s) Y hY
  have e1 : n * 2 ^ s / 4294967296 = u * 4294967296 + c / 4294967296 := by rw [h]; omega
  have e2 : n * 2 ^ s % 4294967296 = c % 4294967296 := by rw [h]; omega
  rw [e1, e2] at d1 d2
  rw [← d1, ← d2, e]
  obtain ⟨f1, f2⟩ := scaled n y (2 ^ s) hp
  rw [f1, f2]
  exact ⟨rfl, Int.mul_ediv_cancel _ (by omega)⟩
/-- What the first digit leaves, as the walk writes it. -/
theorem first_left (u c Y : Int) (hY : 0 < Y) (t1 : Y ≤ 18446744073709551615) (c0 : 0 ≤ c) (c1 : c ≤ 4294967295) :
    IntKind.u64.wrap (IntKind.u64.wrap (IntKind.u64.wrap (u * 4294967296) + c) - IntKind.u64.wrap ((u * 4294967296 + c) / Y * Y)) = (u * 4294967296 + c) % Y := by
  rw [← rem_wide (u * 4294967296 + c) Y hY t1]
  simp only [u64_mod]
  generalize (u * 4294967296 + c) / Y * Y = p
  omega
theorem digit_bd {x y : Int} (y0 : 0 < y) (x0 : 0 ≤ x) (h : x < y * 4294967296) : 0 ≤ x / y ∧ x / y ≤ 4294967295 := by
  refine ⟨Int.ediv_nonneg x0 (by omega), ?_⟩
  have := Int.ediv_lt_of_lt_mul y0 (show x < 4294967296 * y by omega)
  omega

/-! The division, bit by bit -/
/-- Behind the bits above k: q and r of n / 2^(k+1) by d. -/
def LongAt (n d q r k : Int) : Prop :=
  0 ≤ q ∧ q ≤ 18446744073709551615 ∧ 0 ≤ r ∧ r < d ∧ q * d + r = n / 2 ^ (k + 1).toNat
theorem long_start {hi lo d : Int} (h0 : 0 ≤ hi) (h : hi < d) (l0 : 0 ≤ lo) (l1 : lo ≤ 18446744073709551615) (d1 : d ≤ 18446744073709551615) : LongAt (hi * 18446744073709551616 + lo) d 0 hi 63 := by
  refine ⟨by omega, by omega, h0, h, ?_⟩
  show _ = _ / 2 ^ 64
  omega
theorem long_end {n d q r k : Int} (hk : k < 0) (k0 : -1 ≤ k) (L : LongAt n d q r k) : q = n / d ∧ r = n % d := by
  obtain ⟨q0, q1, r0, r1, e⟩ := L
  obtain rfl : k = -1 := by omega
  have h : n / 2 ^ (-1 + 1 : Int).toNat = n := by show n / 2 ^ 0 = n; omega
  rw [h] at e
  subst e
  have hd : 0 < d := by omega
  constructor
  · rw [Int.add_comm, Int.add_mul_ediv_right _ _ (by omega), Int.ediv_eq_zero_of_lt r0 r1]; omega
  · rw [Int.add_comm, Int.add_mul_emod_self_right, Int.emod_eq_of_lt r0 r1]
/-- A bit of the lower word is that of the whole. -/
theorem bit_of (hi lo : Int) (k : Nat) (hk : k ≤ 63) : (hi * 18446744073709551616 + lo) / 2 ^ k % 2 = lo / 2 ^ k % 2 := by
  have hp : (0 : Int) < 2 ^ k := Int.pow_pos (by decide)
  have e : hi * 18446744073709551616 = hi * 2 ^ (63 - k) * 2 * 2 ^ k := by
    rw [← pow_split (k + 1) (by omega), show 64 - (k + 1) = 63 - k by omega, Int.pow_succ]
    simp only [Int.mul_assoc]
    congr 1
    rw [Int.mul_comm (2 ^ k), Int.mul_assoc, Int.mul_comm (2 ^ (63 - k)), ← Int.mul_assoc, Int.mul_comm _ (2 * 2 ^ k)]
  rw [e, Int.add_comm, Int.add_mul_ediv_right _ _ (by omega)]
  omega
theorem long_step {hi lo d q r k : Int} (h0 : 0 ≤ hi) (h : hi < d) (l0 : 0 ≤ lo) (l1 : lo ≤ 18446744073709551615) (k0 : 0 ≤ k) (k1 : k ≤ 63) (L : LongAt (hi * 18446744073709551616 + lo) d q r k) :
    q * 2 * d + (r * 2 + lo / 2 ^ k.toNat % 2) = (hi * 18446744073709551616 + lo) / 2 ^ (k - 1 + 1).toNat ∧ q * 2 ≤ 18446744073709551614 := by
  obtain ⟨q0, q1, r0, r1, e⟩ := L
  have e1 : (k - 1 + 1).toNat = k.toNat := by omega
  have e2 : (k + 1).toNat = k.toNat + 1 := by omega
  have hb := bit_of hi lo k.toNat (by omega)
  have hn : hi * 18446744073709551616 + lo < d * 18446744073709551616 := by omega
  obtain ⟨c0, c1⟩ := pow_div_le (hi * 18446744073709551616 + lo) k.toNat (by omega)
  rw [e1]
  rw [e2, div_half] at e
  rw [← hb]
  generalize (hi * 18446744073709551616 + lo) / 2 ^ k.toNat = c at *
  have hm : q * 2 * d = q * d * 2 := by rw [Int.mul_right_comm]
  refine ⟨by omega, ?_⟩
  apply Int.le_of_not_gt
  intro hq
  have : 9223372036854775808 * d ≤ q * d := Int.mul_le_mul_of_nonneg_right (by omega) (by omega)
  omega
theorem long_over {hi lo d q r k : Int} (h0 : 0 ≤ hi) (h : hi < d) (l0 : 0 ≤ lo) (l1 : lo ≤ 18446744073709551615) (d1 : d ≤ 18446744073709551615) (k0 : 0 ≤ k) (k1 : k ≤ 63)
    (L : LongAt (hi * 18446744073709551616 + lo) d q r k) (hr : 9223372036854775808 ≤ r) :
    LongAt (hi * 18446744073709551616 + lo) d (bits .or .u64 (IntKind.u64.wrap (q * 2)) 1) (IntKind.u64.wrap (bits .or .u64 (IntKind.u64.wrap (r * 2)) (bits .and .u64 (lo / 2 ^ k.toNat) 1) - d)) (k - 1) := by
  obtain ⟨s1, s2⟩ := long_step h0 h l0 l1 k0 k1 L
  obtain ⟨q0, q1, r0, r1, e⟩ := L
  obtain ⟨c0, c1⟩ := pow_div_le lo k.toNat l0
  rw [and_one _ c0 (by omega), or_bit q 1 q0 (by omega) (by omega), or_bit r _ r0 (by omega) (by omega), u64_mod]
  rw [show (q * 2) % 18446744073709551616 + 1 = q * 2 + 1 by omega]
  refine ⟨by omega, by omega, by omega, by omega, ?_⟩
  rw [← s1, Int.add_mul, Int.one_mul]
  omega
theorem or_bit' (x y : Int) (x0 : 0 ≤ x) (x1 : x < 9223372036854775808) (y0 : 0 ≤ y) (hy : y ≤ 1) : bits .or .u64 (x * 2) y = x * 2 + y := by
  have h := or_bit x y x0 y0 hy
  rw [u64_mod, show (x * 2) % 18446744073709551616 = x * 2 by omega] at h
  exact h
theorem long_sub {hi lo d q r k : Int} (h0 : 0 ≤ hi) (h : hi < d) (l0 : 0 ≤ lo) (l1 : lo ≤ 18446744073709551615) (d1 : d ≤ 18446744073709551615) (k0 : 0 ≤ k) (k1 : k ≤ 63)
    (L : LongAt (hi * 18446744073709551616 + lo) d q r k) (hr : r < 9223372036854775808) (hd : d ≤ r * 2 + lo / 2 ^ k.toNat % 2) :
    LongAt (hi * 18446744073709551616 + lo) d (bits .or .u64 (IntKind.u64.wrap (q * 2)) 1) (r * 2 + lo / 2 ^ k.toNat % 2 - d) (k - 1) := by
  obtain ⟨s1, s2⟩ := long_step h0 h l0 l1 k0 k1 L
  obtain ⟨q0, q1, r0, r1, e⟩ := L
  rw [or_bit q 1 q0 (by omega) (by omega)]
  rw [show (q * 2) % 18446744073709551616 + 1 = q * 2 + 1 by omega]
  refine ⟨by omega, by omega, by omega, by omega, ?_⟩
  rw [← s1, Int.add_mul, Int.one_mul]
  omega
theorem long_keep {hi lo d q r k : Int} (h0 : 0 ≤ hi) (h : hi < d) (l0 : 0 ≤ lo) (l1 : lo ≤ 18446744073709551615) (d1 : d ≤ 18446744073709551615) (k0 : 0 ≤ k) (k1 : k ≤ 63)
    (L : LongAt (hi * 18446744073709551616 + lo) d q r k) (hr : r < 9223372036854775808) (hd : r * 2 + lo / 2 ^ k.toNat % 2 < d) :
    LongAt (hi * 18446744073709551616 + lo) d (IntKind.u64.wrap (q * 2)) (r * 2 + lo / 2 ^ k.toNat % 2) (k - 1) := by
  obtain ⟨s1, s2⟩ := long_step h0 h l0 l1 k0 k1 L
  obtain ⟨q0, q1, r0, r1, e⟩ := L
  rw [u64_mod, show (q * 2) % 18446744073709551616 = q * 2 by omega]
  exact ⟨by omega, by omega, by omega, hd, s1⟩
theorem low_bit (lo k r : Int) (l0 : 0 ≤ lo) (l1 : lo ≤ 18446744073709551615) (r0 : 0 ≤ r) (r1 : r < 9223372036854775808) :
    bits .or .u64 (r * 2) (bits .and .u64 (lo / 2 ^ k.toNat) 1) = r * 2 + lo / 2 ^ k.toNat % 2 := by
  obtain ⟨c0, c1⟩ := pow_div_le lo k.toNat l0
  rw [and_one _ c0 (by omega), or_bit' r _ r0 r1 (by omega) (by omega)]
end Go.Proofs.Ytbamdilihpnhjaa.Wide
