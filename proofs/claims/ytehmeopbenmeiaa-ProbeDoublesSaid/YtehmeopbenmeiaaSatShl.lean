/-
  The contracts of sat.Shl and of the reference's shift. Each leaves the world as it was.
-/
import Derived.Test.YtehmeopbenmeiaaSat
set_option linter.unusedSimpArgs false
set_option linter.unusedVariables false
namespace Go.Proofs.Ytehmeopbenmeiaa.Sat
set_option linter.unusedVariables false
set_option maxRecDepth 20000
open Go.ChangeShapes Go.WideShapes Go.ChangeAt Go.RowKit

theorem shl_any (a n : Int) (a0 : 0 ≤ a) (a1 : a ≤ 18446744073709551615) (n0 : -9223372036854775808 ≤ n) (n1 : n ≤ 9223372036854775807) (w : World) :
    Calls Try.prog 20 #[.int .u64 a, .int .i64 n] w fun e w' => e = .returned (.int .u64 (shl a n)) ∧ w = w' := by
  by_cases hn : n < 0
  · go_enter Try.func20, Try.ntmps20
    go_wp2
    go_ret
    exact ⟨ret_u64 (shl_neg a1 (by omega)).symm, rfl⟩
  by_cases ha : a = 0
  · subst ha
    go_enter Try.func20, Try.ntmps20
    go_wp2
    go_ret
    exact ⟨ret_u64 (shl_zero n).symm, rfl⟩
  have hl := Lib.bitLen_le a.toNat 64 (Nat.le_refl _) (by omega)
  by_cases h : n > 64 - (Lib.bitLen a.toNat : Int)
  · go_enter Try.func20, Try.ntmps20
    go_wp2_with (go_at_call 23; refine (Bits.lz64 a _ a0 a1).mono ?_; rintro e w' ⟨rfl, rfl⟩)
    go_ret
    exact ⟨ret_u64 (shl_over (shl_bits_over (by omega) a1 (by omega) h)).symm, rfl⟩
  · have hf := shl_bits_fits (n := n) (by omega) a1 (by omega) (by omega)
    go_enter Try.func20, Try.ntmps20
    go_wp2_with (go_at_call 23; refine (Bits.lz64 a _ a0 a1).mono ?_; rintro e w' ⟨rfl, rfl⟩)
    go_ret
    have hp := pw_nonneg a0 n.toNat
    refine ⟨ret_u64 ?_, rfl⟩
    rw [shl_fits hf]
    exact IntWalk.u64_in _ ⟨hp, hf⟩

theorem ref_shl (a n : Int) (a0 : 0 ≤ a) (a1 : a ≤ 18446744073709551615) (n0 : -9223372036854775808 ≤ n) (n1 : n ≤ 9223372036854775807) (w : World) :
    Calls Try.prog 21 #[.int .u64 a, .int .i64 n] w fun e w' => e = .returned (.int .u64 (shl a n)) ∧ w = w' := by
  go_enter Try.func21, Try.ntmps21
  go_wp2
  go_loop [0, 5] (fun x i => ∃ k : Nat, k ≤ n.toNat ∧ pw a k ≤ 18446744073709551615 ∧ i = .int .i64 k ∧ x = .int .u64 (pw a k)) (fun _ i => n.toNat - (intOf i).toNat)
  case atStart => exact ⟨0, Nat.zero_le _, by rw [pw_zero]; exact a1, rfl, by rw [pw_zero]⟩
  case round =>
    obtain ⟨k, hk, hp, rfl, rfl⟩ := hrel
    have hp0 := pw_nonneg a0 k
    by_cases hlt : (k : Int) < n
    · by_cases hz : pw a k = 0
      · have H := shl_fits (a := a) (n := n)
        have e : a = 0 := by
          have := pw_le a0 0 k
          rw [pw_zero, Nat.zero_add] at this
          omega
        rw [hz]
        subst e
        clear hz hp hp0 H
        go_wp2
        go_ret
        exact ⟨ret_u64 (shl_zero n).symm, rfl⟩
      · by_cases ht : pw a k = 18446744073709551615
        · have H := Lib.hid (shl_at (n := n) a0 hk (by omega))
          rw [ht]
          have b1 : ((18446744073709551615 : Int) != 0) = true := rfl
          clear ht hz hp hp0
          go_wp2
          go_ret
          exact ⟨ret_u64 H.out.symm, rfl⟩
        · have b1 : (pw a k != 0) = true := by simpa using hz
          have b2 : (pw a k != 18446744073709551615) = true := by simpa using ht
          by_cases hh : 9223372036854775807 < pw a k
          · have H := Lib.hid (shl_half (k := k) (n := n) a0 (by omega) hh)
            go_wp2
            go_ret
            exact ⟨ret_u64 H.out.symm, rfl⟩
          · have hs := Lib.hid (pw_succ a k)
            go_wp2
            go_round
            case rel => exact ⟨k + 1, by omega, by rw [hs.out]; omega, by go_num, by rw [hs.out]⟩
            case measure => simp [intOf]; omega
    · have e : n.toNat = k := by omega
      have H := Lib.hid (shl_fits (a := a) (n := n) (by rw [e]; exact hp))
      have E := Lib.hid e
      clear e
      go_wp2
      go_ret
      exact ⟨ret_u64 (by rw [H.out, E.out]), rfl⟩
end Go.Proofs.Ytehmeopbenmeiaa.Sat
