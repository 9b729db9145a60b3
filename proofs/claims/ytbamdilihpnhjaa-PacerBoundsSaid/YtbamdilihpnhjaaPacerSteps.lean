/-
  What a bucket gives between two takes: the plain half of PacerBounds.
-/
import Derived.Test.YtbamdilihpnhjaaPacerMore
set_option linter.unusedSimpArgs false
set_option linter.unusedVariables false
namespace Go.Proofs.Ytbamdilihpnhjaa.PacerPlain
set_option linter.unusedVariables false
open Go.Proofs.Ytbamdilihpnhjaa.RenoPlain

theorem fill_is {t a r b d : Int} (t0 : 0 ≤ t) (t1 : t ≤ 65535000000) (a0 : 0 ≤ a) (a1 : a ≤ 4294967295) (r0 : 0 ≤ r) (r1 : r ≤ 4294967296) (b0 : 0 ≤ b) (b1 : b ≤ 65535) (d0 : 0 ≤ d) (d1 : d ≤ 65535) :
    fillP ⟨t, a, r⟩ b (a + d) = ⟨min (b * 1000000) (t + r * d), a + d, r⟩ := by
  have m0 := Int.mul_nonneg r0 d0
  have m1 : r * d ≤ 4294967296 * 65535 := Int.mul_le_mul r1 d1 d0 (by decide)
  have e1 : Sat.sub (a + d) a = d := by unfold Sat.sub; rw [if_neg (by omega)]; omega
  have e2 : Sat.mul r d = r * d := Sat.mul_fits (by omega)
  have e3 : full b = b * 1000000 := by unfold full; exact Sat.mul_fits (by omega)
  have e4 : Sat.add t (r * d) = t + r * d := by unfold Sat.add; rw [if_pos (by omega)]
  unfold fillP
  simp only [e1, e2, e3, e4, Pc.mk.injEq, and_true, true_and]
  omega
/-- One take: what is left and what went is what there was and what came. -/
theorem take_is {t a r b d s : Int} (t0 : 0 ≤ t) (t1 : t ≤ b * 1000000) (a0 : 0 ≤ a) (a1 : a ≤ 4294967295) (r0 : 0 ≤ r) (r1 : r ≤ 4294967296) (b0 : 0 ≤ b) (b1 : b ≤ 65535) (d0 : 0 ≤ d) (d1 : d ≤ 65535) (s0 : 0 ≤ s) (s1 : s ≤ 65535) :
    ∃ y n, takeP ⟨t, a, r⟩ b (a + d) s = ⟨y, a + d, r⟩ ∧ (if takeB ⟨t, a, r⟩ b (a + d) s = true then s else 0) = n ∧ 0 ≤ n ∧ n ≤ 65535 ∧ 0 ≤ y ∧ y + n * 1000000 ≤ b * 1000000 ∧ y + n * 1000000 ≤ t + r * d := by
  have m0 := Int.mul_nonneg r0 d0
  have e := fill_is t0 (show t ≤ 65535000000 by omega) a0 a1 r0 r1 b0 b1 d0 d1
  have e2 : Sat.mul s 1000000 = s * 1000000 := Sat.mul_fits (by omega)
  unfold takeP takeB
  rw [e, e2]
  simp only
  generalize r * d = c at *
  by_cases h : s * 1000000 ≤ min (b * 1000000) (t + c)
  · rw [decide_eq_true h, if_pos rfl, if_pos rfl]
    exact ⟨_, _, rfl, rfl, by omega, by omega, by omega, by omega, by omega⟩
  · rw [decide_eq_false h, if_neg (by decide), if_neg (by decide)]
    exact ⟨_, _, rfl, rfl, by omega, by omega, by omega, by omega, by omega⟩
/-- Another rate first: the time till then counts by the rate before. -/
theorem set_is {t a r b d x : Int} (t0 : 0 ≤ t) (t1 : t ≤ b * 1000000) (a0 : 0 ≤ a) (a1 : a ≤ 4294967295) (r0 : 0 ≤ r) (r1 : r ≤ 4294967296) (b0 : 0 ≤ b) (b1 : b ≤ 65535) (d0 : 0 ≤ d) (d1 : d ≤ 65535) (x0 : 0 ≤ x) (x1 : x ≤ 4294967295) :
    ∃ y, setP ⟨t, a, r⟩ b (a + d) x = ⟨y, a + d, x⟩ ∧ 0 ≤ y ∧ y ≤ b * 1000000 ∧ y ≤ t + r * d := by
  have m0 := Int.mul_nonneg r0 d0
  have e := fill_is t0 (show t ≤ 65535000000 by omega) a0 a1 r0 r1 b0 b1 d0 d1
  unfold setP
  rw [e, show min x 4294967296 = x by omega]
  exact ⟨min (b * 1000000) (t + r * d), rfl, by omega, by omega, by omega⟩
/-- One turn: with another rate or without. -/
theorem turn_is {t a r b d s x : Int} (g : Bool) (t0 : 0 ≤ t) (t1 : t ≤ b * 1000000) (a0 : 0 ≤ a) (a1 : a + d ≤ 4294967295) (r0 : 0 ≤ r) (r1 : r ≤ 4294967296) (b0 : 0 ≤ b) (b1 : b ≤ 65535) (d0 : 0 ≤ d) (d1 : d ≤ 65535) (s0 : 0 ≤ s) (s1 : s ≤ 65535) (x0 : 0 ≤ x) (x1 : x ≤ 4294967295) :
    ∃ y n z, takeP (if g then setP ⟨t, a, r⟩ b (a + d) x else ⟨t, a, r⟩) b (a + d) s = ⟨y, a + d, z⟩ ∧ (if takeB (if g then setP ⟨t, a, r⟩ b (a + d) x else ⟨t, a, r⟩) b (a + d) s = true then s else 0) = n ∧ 0 ≤ n ∧ n ≤ 65535 ∧ 0 ≤ y ∧ 0 ≤ z ∧ z ≤ 4294967296 ∧ y + n * 1000000 ≤ b * 1000000 ∧ y + n * 1000000 ≤ t + r * d := by
  cases g
  · obtain ⟨y, n, h1, h2, h3, h4, h5, h6, h7⟩ := take_is t0 t1 a0 (by omega) r0 r1 b0 b1 d0 d1 s0 s1
    exact ⟨y, n, r, h1, h2, h3, h4, h5, r0, r1, h6, h7⟩
  · obtain ⟨v, k1, k2, k3, k4⟩ := set_is t0 t1 a0 (by omega) r0 r1 b0 b1 d0 d1 x0 x1
    rw [if_pos rfl, k1]
    obtain ⟨y, n, h1, h2, h3, h4, h5, h6, h7⟩ := take_is (d := 0) k2 k3 (show 0 ≤ a + d by omega) a1 x0 (by omega) b0 b1 (Int.le_refl 0) (by decide) s0 s1
    rw [Int.add_zero] at h1 h2
    rw [Int.mul_zero] at h7
    exact ⟨y, n, x, h1, h2, h3, h4, h5, x0, by omega, h6, by omega⟩
/-- An interval grows by one take: what went and what is left is at most a burst and the greatest rate times the time. -/
theorem span_is {B n y t m r r' a0 a a' : Int} (h : n * 1000000 + t ≤ B + r * (a - a0)) (hy : y + m * 1000000 ≤ t + r' * (a' - a)) (hr : r' ≤ r) (ha : a0 ≤ a) (ha' : a ≤ a') (z : Int) (hz : r ≤ z) :
    (n + m) * 1000000 + y ≤ B + z * (a' - a0) := by
  have e1 := Int.mul_le_mul_of_nonneg_right hr (show 0 ≤ a' - a by omega)
  have e2 := Int.mul_le_mul_of_nonneg_right hz (show 0 ≤ a' - a0 by omega)
  have e3 : r * (a' - a0) = r * (a - a0) + r * (a' - a) := by rw [← Int.mul_add]; congr 1; omega
  omega
end Go.Proofs.Ytbamdilihpnhjaa.PacerPlain
