/-
  The contracts of package wide and of the reference's functions beside it. Below the heap's size the world is as it was.
-/
import Derived.Test.YtbamdilihpnhjaaRows
import Derived.Test.YtbamdilihpnhjaaBase
import Derived.Test.YtbamdilihpnhjaaWideDigit
import Derived.Test.YtbamdilihpnhjaaBits
import Derived.Test.YtbamdilihpnhjaaDiv64
import Derived.Test.YtbamdilihpnhjaaRefTimes
import Derived.WalkKit
import Derived.ProofKit
import Derived.OpenShut
import Derived.Lib.Hide
import Derived.LoopTactic
import Derived.Outline
set_option linter.unusedSimpArgs false
set_option linter.unusedVariables false
namespace Go.Proofs.Ytbamdilihpnhjaa.Wide
open Go.ChangeShapes Go.WideShapes Go.ChangeAt Go.RowKit
set_option linter.unusedVariables false
set_option maxRecDepth 20000

theorem mul_any (a b : Int) (a0 : 0 ≤ a) (a1 : a ≤ 18446744073709551615) (b0 : 0 ≤ b) (b1 : b ≤ 18446744073709551615) (w : World) :
    Calls Try.prog 37 #[.int .u64 a, .int .u64 b] w fun e w' => e = .returned (.tuple #[.int .u64 (a * b / 18446744073709551616), .int .u64 (a * b % 18446744073709551616)]) ∧ w = w' := by
  go_enter Try.func37, Try.ntmps37
  go_wp2_with (go_at_call 35; refine (Bits.mul64 a b a0 a1 b0 b1 _).mono ?_; rintro e w' ⟨rfl, rfl⟩)
  go_ret2
  exact ⟨rfl, rfl⟩
theorem div_no (hi lo d : Int) (h : d ≤ hi) (w : World) :
    Calls Try.prog 38 #[.int .u64 hi, .int .u64 lo, .int .u64 d] w fun e w' => e = .returned (.tuple #[.int .u64 0, .int .u64 0, .bool false]) ∧ w = w' := by
  go_enter Try.func38, Try.ntmps38
  go_wp2
  go_ret3
  exact ⟨rfl, rfl⟩
theorem div_yes (hi lo d : Int) (h0 : 0 ≤ hi) (h : hi < d) (l0 : 0 ≤ lo) (l1 : lo ≤ 18446744073709551615) (d1 : d ≤ 18446744073709551615) (w : World) :
    Calls Try.prog 38 #[.int .u64 hi, .int .u64 lo, .int .u64 d] w fun e w' => e = .returned (.tuple #[.int .u64 ((hi * 18446744073709551616 + lo) / d), .int .u64 ((hi * 18446744073709551616 + lo) % d), .bool true]) ∧ Below w.heap.size w w' := by
  go_enter Try.func38, Try.ntmps38
  go_wp2_with (go_at_call 39; refine (div64 hi lo d h0 h l0 l1 d1 _).mono ?_; rintro e w' ⟨rfl, hb⟩)
  go_ret3
  exact ⟨rfl, hb⟩
theorem ref_div_no (hi lo d : Int) (h : d ≤ hi) (w : World) :
    Calls Try.prog 33 #[.int .u64 hi, .int .u64 lo, .int .u64 d] w fun e w' => e = .returned (.tuple #[.int .u64 0, .int .u64 0, .bool false]) ∧ w = w' := by
  go_enter Try.func33, Try.ntmps33
  go_wp2
  go_ret3
  exact ⟨rfl, rfl⟩
theorem ref_div_yes (hi lo d : Int) (h0 : 0 ≤ hi) (h : hi < d) (l0 : 0 ≤ lo) (l1 : lo ≤ 18446744073709551615) (d1 : d ≤ 18446744073709551615) (w : World) :
    Calls Try.prog 33 #[.int .u64 hi, .int .u64 lo, .int .u64 d] w fun e w' => e = .returned (.tuple #[.int .u64 ((hi * 18446744073709551616 + lo) / d), .int .u64 ((hi * 18446744073709551616 + lo) % d), .bool true]) ∧ w = w' := by
  have S := long_start (hi := hi) (lo := lo) (d := d) h0 h l0 l1 d1
  go_enter Try.func33, Try.ntmps33
  go_wp2
  go_loop [9, 10, 11] (fun q r i => ∃ k q' r' : Int, -1 ≤ k ∧ k ≤ 63 ∧ i = .int .i64 k ∧ q = .int .u64 q' ∧ r = .int .u64 r' ∧ LongAt (hi * 18446744073709551616 + lo) d q' r' k) (fun _ _ i => (intOf i + 1).toNat)
  case atStart => exact ⟨63, 0, hi, by omega, by omega, rfl, rfl, rfl, S⟩
  case round =>
    obtain ⟨k, q, r, k0, k1, rfl, rfl, rfl, L⟩ := hrel
    have q0 := L.1
    have q1 := L.2.1
    have r0 := L.2.2.1
    have r1 := L.2.2.2.1
    clear S
    by_cases hk : 0 ≤ k
    · have hb0 : 0 ≤ lo / 2 ^ k.toNat % 2 := by omega
      have hb1 : lo / 2 ^ k.toNat % 2 ≤ 1 := by omega
      by_cases hr : 9223372036854775808 ≤ r
      · have b1 : (r / 9223372036854775808 == 1) = true := by simp; omega
        have L' := long_over h0 h l0 l1 d1 hk k1 L hr
        go_wp2
        go_round
        case rel => exact ⟨k - 1, _, _, by omega, by omega, rfl, rfl, rfl, L'⟩
        case measure => simp [intOf]; omega
      · have b1 : (r / 9223372036854775808 == 1) = false := by simp; omega
        have E := Lib.hid (low_bit lo k r l0 l1 r0 (by omega))
        by_cases hd : d ≤ r * 2 + lo / 2 ^ k.toNat % 2
        · have L' := long_sub h0 h l0 l1 d1 hk k1 L (by omega) hd
          go_upto_region 10 with fail
          rw [E.out]
          go_wp2
          go_round
          case rel => exact ⟨k - 1, _, _, by omega, by omega, rfl, rfl, rfl, L'⟩
          case measure => simp [intOf]; omega
        · have L' := long_keep h0 h l0 l1 d1 hk k1 L (by omega) (by omega)
          go_upto_region 10 with fail
          rw [E.out]
          go_wp2
          go_round
          case rel => exact ⟨k - 1, _, _, by omega, by omega, rfl, rfl, rfl, L'⟩
          case measure => simp [intOf]; omega
    · obtain ⟨eq, er⟩ := long_end (by omega) k0 L
      have EQ := Lib.hid eq
      have ER := Lib.hid er
      clear eq er
      go_wp2
      rw [EQ.out, ER.out]
      go_ret3
      exact ⟨rfl, rfl⟩
end Go.Proofs.Ytbamdilihpnhjaa.Wide
