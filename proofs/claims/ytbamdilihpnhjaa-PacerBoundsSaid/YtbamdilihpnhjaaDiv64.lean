/-
  The contract of math/bits.Div64, entered where the upper word is less than the divisor: quotient and remainder; the world is as it was but for draws of an order.
-/
import Derived.Test.YtbamdilihpnhjaaRows
import Derived.Test.YtbamdilihpnhjaaWideDigit
import Derived.Test.YtbamdilihpnhjaaBase
import Derived.Test.YtbamdilihpnhjaaBits
import Derived.WalkKit
import Derived.ProofKit
import Derived.OpenShut
import Derived.Lib.Hide
import Derived.LoopTactic
import Derived.Deep.QuietTactic
import Derived.BigQuiet
import Derived.Deep.CutBlock
import Derived.Deep.DeepCutAuto
set_option linter.unusedSimpArgs false
set_option linter.unusedVariables false
namespace Go.Proofs.Ytbamdilihpnhjaa.Wide
open Go.ChangeShapes Go.WideShapes Go.ChangeAt Go.RowKit
set_option linter.unusedVariables false
set_option maxRecDepth 20000
theorem ret_u64v {a b : Int} (h : a = b) : Value.int .u64 a = .int .u64 b := by rw [h]
theorem div64_small (lo y : Int) (l0 : 0 ≤ lo) (l1 : lo ≤ 18446744073709551615) (y0 : 0 < y) (y1 : y ≤ 18446744073709551615) (w : World) :
    Calls Try.prog 39 #[.int .u64 0, .int .u64 lo, .int .u64 y] w fun e w' => e = .returned (.tuple #[.int .u64 (lo / y), .int .u64 (lo % y)]) ∧ ∃ n, w' = w.drewN n := by
  have b1 : (y == 0) = false := by simp; omega
  have b2 : decide (y ≤ 0) = false := by simp; omega
  have b3 : ¬ y ≤ 0 := by omega
  go_enter Try.func39, Try.ntmps39
  go_wp2
  go_quiet (fail)
  go_wp2
  go_ret2
  exact ⟨rfl, _, rfl⟩
theorem div64_large (hi lo y : Int) (h0 : 0 < hi) (hy : hi < y) (l0 : 0 ≤ lo) (l1 : lo ≤ 18446744073709551615) (y1 : y ≤ 18446744073709551615) (w : World) :
    Calls Try.prog 39 #[.int .u64 hi, .int .u64 lo, .int .u64 y] w fun e w' => e = .returned (.tuple #[.int .u64 ((hi * 18446744073709551616 + lo) / y), .int .u64 ((hi * 18446744073709551616 + lo) % y)]) ∧ w = w' := by
  obtain ⟨s0, s1, t0, t1⟩ := nz_facts (y := y) (by omega) y1
  have HS := Lib.hid (show (64 - (Lib.bitLen y.toNat : Int)) = nz y from rfl)
  generalize nz y = s at *
  have b1 : (y == 0) = false := by simp; omega
  have b2 : (hi == 0) = false := by simp; omega
  go_enter Try.func39, Try.ntmps39
  go_upto_region 15 with (go_at_call 40; refine (Bits.lz64 y _ (by omega) y1).mono ?_; rw [HS.out]; rintro e w' ⟨rfl, rfl⟩)
  obtain ⟨u, c, eu, ec, u0, u1, c0, c1, en⟩ := shifted hi lo y s (by omega) hy l0 l1 s0 s1 t1
  simp only [eu, ec, low_half _ (show 0 ≤ y * 2 ^ s.toNat by omega) t1, low_half c c0 c1]
  have EN := Lib.hid en
  clear eu ec en HS
  generalize eY : y * 2 ^ s.toNat = Y at *
  have EY := Lib.hid eY
  clear eY
  have EP := Lib.hid (show Y = Y / 4294967296 * 4294967296 + Y % 4294967296 by omega)
  have p0 : 2147483648 ≤ Y / 4294967296 := by omega
  have p1 : Y / 4294967296 ≤ 4294967295 := by omega
  have p2 : 0 ≤ Y % 4294967296 := by omega
  have p3 : Y % 4294967296 ≤ 4294967295 := by omega
  generalize Y / 4294967296 = z1 at *
  generalize Y % 4294967296 = z0 at *
  go_upto_block 0 with fail
  have d0 : 0 ≤ c / 4294967296 := by omega
  have d1 : c / 4294967296 ≤ 4294967295 := by omega
  have e0 : 0 ≤ c % 4294967296 := by omega
  have e1 : c % 4294967296 ≤ 4294967295 := by omega
  have D0 := dig_start (c := c / 4294967296) p0 p1 p2 p3 d1 u0 (by rw [← EP.out]; exact u1)
  rw [rem_wrap u z1 (by omega) u0 (by omega) (by omega)]
  go_cut [15, 16] (fun q r wx => q = .int .u64 ((u * 4294967296 + c / 4294967296) / Y) ∧ wx = w)
  case first =>
    go_wp2_with fail
    go_loop [15, 16] (fun q r => ∃ q' r', q = .int .u64 q' ∧ r = .int .u64 r' ∧ Dig u (c / 4294967296) z1 z0 q' r') (fun q _ => (intOf q).toNat)
    case atStart => exact ⟨_, _, rfl, rfl, D0⟩
    case round =>
      obtain ⟨q, r, rfl, rfl, D⟩ := hrel
      have q0 := D.1
      have q1 := D.2.1
      have r0 := D.2.2.1
      have r1 := D.2.2.2.1
      have m0 : 0 ≤ q * z0 := Int.mul_nonneg q0 p2
      clear D0
      by_cases hb : 4294967296 ≤ q
      · have B : Big (c / 4294967296) z0 q r := Or.inl hb
        have hp := big_pos (by omega) D B
        by_cases hr : 4294967296 ≤ r + z1
        · have E := Lib.hid (dig_broke p2 p3 (by omega) (by omega) p0 (by rw [← EP.out]; exact u1) D B hr)
          go_wp2
          go_meet
          exact ⟨ret_u64v (by rw [E.out, ← EP.out]), rfl⟩
        · have D' := dig_dec p2 (by omega) (by omega) (by omega) (by rw [← EP.out]; exact u1) D B (by omega)
          go_wp2
          go_round
          case rel => exact ⟨_, _, rfl, rfl, D'⟩
          case measure => simp [intOf]; omega
      · have m1 : q * z0 ≤ 4294967296 * 4294967295 := by
          have h1 : q * z0 ≤ 4294967296 * z0 := Int.mul_le_mul_of_nonneg_right (by omega) p2
          omega
        by_cases hg : 4294967296 * r + c / 4294967296 < q * z0
        · have B : Big (c / 4294967296) z0 q r := Or.inr (by omega)
          have hp := big_pos (by omega) D B
          by_cases hr : 4294967296 ≤ r + z1
          · have E := Lib.hid (dig_broke p2 p3 (by omega) (by omega) p0 (by rw [← EP.out]; exact u1) D B hr)
            go_wp2
            go_meet
            exact ⟨ret_u64v (by rw [E.out, ← EP.out]), rfl⟩
          · have D' := dig_dec p2 (by omega) (by omega) (by omega) (by rw [← EP.out]; exact u1) D B (by omega)
            go_wp2
            go_round
            case rel => exact ⟨_, _, rfl, rfl, D'⟩
            case measure => simp [intOf]; omega
        · have E := Lib.hid (dig_held p2 p0 D (by omega))
          go_wp2
          go_meet
          exact ⟨ret_u64v (by rw [E.out, ← EP.out]), rfl⟩
  case rest =>
    obtain ⟨rfl, rfl⟩ := hcut
    have FE := div_end (u := u) (y := y) (by omega) EY.out.symm EN.out c0 c1
    obtain ⟨g0, g1⟩ := digit_bd (x := u * 4294967296 + c / 4294967296) (y := Y) (by omega) (by omega) (by omega)
    have v0 := Int.emod_nonneg (u * 4294967296 + c / 4294967296) (b := Y) (by omega)
    have v1 := Int.emod_lt_of_pos (u * 4294967296 + c / 4294967296) (b := Y) (by omega)
    go_upto_region 22 with fail
    rw [first_left u (c / 4294967296) Y (by omega) t1 d0 d1]
    generalize (u * 4294967296 + c / 4294967296) / Y = k1 at *
    generalize (u * 4294967296 + c / 4294967296) % Y = v at *
    have FQ := Lib.hid FE.1
    have FR := Lib.hid FE.2
    clear FE D0
    have D1 := dig_start (c := c % 4294967296) p0 p1 p2 p3 e1 v0 (by rw [← EP.out]; exact v1)
    obtain ⟨g2, g3⟩ := digit_bd (x := v * 4294967296 + c % 4294967296) (y := Y) (by omega) (by omega) (by omega)
    go_upto_block 2 with fail
    rw [rem_wrap v z1 (by omega) v0 (by omega) (by omega)]
    go_cut [18, 16] (fun q r wx => q = .int .u64 ((v * 4294967296 + c % 4294967296) / Y) ∧ wx = wc)
    case first =>
      go_wp2_with fail
      go_loop [18, 16] (fun q r => ∃ q' r', q = .int .u64 q' ∧ r = .int .u64 r' ∧ Dig v (c % 4294967296) z1 z0 q' r') (fun q _ => (intOf q).toNat)
      case atStart => exact ⟨_, _, rfl, rfl, D1⟩
      case round =>
        obtain ⟨q, r, rfl, rfl, D⟩ := hrel
        have q0 := D.1
        have q1 := D.2.1
        have r0 := D.2.2.1
        have r1 := D.2.2.2.1
        have m0 : 0 ≤ q * z0 := Int.mul_nonneg q0 p2
        clear D1
        by_cases hb : 4294967296 ≤ q
        · have B : Big (c % 4294967296) z0 q r := Or.inl hb
          have hp := big_pos (by omega) D B
          by_cases hr : 4294967296 ≤ r + z1
          · have E := Lib.hid (dig_broke p2 p3 (by omega) (by omega) p0 (by rw [← EP.out]; exact v1) D B hr)
            go_wp2
            go_meet
            exact ⟨ret_u64v (by rw [E.out, ← EP.out]), rfl⟩
          · have D' := dig_dec p2 (by omega) (by omega) (by omega) (by rw [← EP.out]; exact v1) D B (by omega)
            go_wp2
            go_round
            case rel => exact ⟨_, _, rfl, rfl, D'⟩
            case measure => simp [intOf]; omega
        · have m1 : q * z0 ≤ 4294967296 * 4294967295 := by
            have h1 : q * z0 ≤ 4294967296 * z0 := Int.mul_le_mul_of_nonneg_right (by omega) p2
            omega
          by_cases hg : 4294967296 * r + c % 4294967296 < q * z0
          · have B : Big (c % 4294967296) z0 q r := Or.inr (by omega)
            have hp := big_pos (by omega) D B
            by_cases hr : 4294967296 ≤ r + z1
            · have E := Lib.hid (dig_broke p2 p3 (by omega) (by omega) p0 (by rw [← EP.out]; exact v1) D B hr)
              go_wp2
              go_meet
              exact ⟨ret_u64v (by rw [E.out, ← EP.out]), rfl⟩
            · have D' := dig_dec p2 (by omega) (by omega) (by omega) (by rw [← EP.out]; exact v1) D B (by omega)
              go_wp2
              go_round
              case rel => exact ⟨_, _, rfl, rfl, D'⟩
              case measure => simp [intOf]; omega
          · have E := Lib.hid (dig_held p2 p0 D (by omega))
            go_wp2
            go_meet
            exact ⟨ret_u64v (by rw [E.out, ← EP.out]), rfl⟩
    case rest =>
      obtain ⟨rfl, rfl⟩ := hcut

      go_wp2
      rw [first_left v (c % 4294967296) Y (by omega) t1 e0 e1, FR.out, FQ.out]
      go_ret2
      exact ⟨rfl, rfl⟩
theorem div64 (hi lo y : Int) (h0 : 0 ≤ hi) (hy : hi < y) (l0 : 0 ≤ lo) (l1 : lo ≤ 18446744073709551615) (y1 : y ≤ 18446744073709551615) (w : World) :
    Calls Try.prog 39 #[.int .u64 hi, .int .u64 lo, .int .u64 y] w fun e w' => e = .returned (.tuple #[.int .u64 ((hi * 18446744073709551616 + lo) / y), .int .u64 ((hi * 18446744073709551616 + lo) % y)]) ∧ Below w.heap.size w w' := by
  by_cases h : hi = 0
  · subst h
    refine (div64_small lo y l0 l1 (by omega) y1 w).mono ?_
    rintro e w' ⟨rfl, n, rfl⟩
    exact ⟨by rw [Int.zero_mul, Int.zero_add], Base.drawn (Below.refl _ _) _⟩
  · refine (div64_large hi lo y (by omega) hy l0 l1 y1 w).mono ?_
    rintro e w' ⟨rfl, rfl⟩
    exact ⟨rfl, Below.refl _ _⟩
end Go.Proofs.Ytbamdilihpnhjaa.Wide
