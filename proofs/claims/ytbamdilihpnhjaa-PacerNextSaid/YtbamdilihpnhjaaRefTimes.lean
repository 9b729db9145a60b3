/-
  The contract of the reference's product: both words of a * b; below the heap's size the world is as it was.
-/
import Derived.Test.YtbamdilihpnhjaaRows
import Derived.Test.YtbamdilihpnhjaaWidePlain
import Derived.WalkKit
import Derived.ProofKit
import Derived.OpenShut
import Derived.Lib.Hide
import Derived.LoopTactic
set_option linter.unusedSimpArgs false
set_option linter.unusedVariables false
namespace Go.Proofs.Ytbamdilihpnhjaa.Wide
open Go.ChangeShapes Go.WideShapes Go.ChangeAt Go.RowKit
set_option linter.unusedVariables false
set_option maxRecDepth 20000
theorem ref_times (a b : Int) (a0 : 0 ≤ a) (a1 : a ≤ 18446744073709551615) (b0 : 0 ≤ b) (b1 : b ≤ 18446744073709551615) (w : World) :
    Calls Try.prog 32 #[.int .u64 a, .int .u64 b] w fun e w' => e = .returned (.agg #[.int .u64 (a * b / 18446744073709551616), .int .u64 (a * b % 18446744073709551616)]) ∧ Below w.heap.size w w' := by
  go_enter Try.func32, Try.ntmps32
  go_wp2
  go_loopw [6] (fun i wr => ∃ (k h l : Int), -1 ≤ k ∧ k ≤ 63 ∧ i = .int .i64 k ∧ TimesAt a b h l k ∧ wr = (w.alloc (.cells #[.int .u64 0, .int .u64 0] 45)).alloc (.cells #[.int .u64 h, .int .u64 l] 45)) (fun i _ => (intOf i + 1).toNat)
  case atStart => exact ⟨63, 0, 0, by omega, by omega, rfl, times_start a b b0 b1, rfl⟩
  case round =>
    obtain ⟨k, h, l, k0, k1, rfl, H, rfl⟩ := hrel
    have h0 := H.1
    have h1 := H.2.1
    have l0 := H.2.2.1
    have l1 := H.2.2.2.1
    by_cases hk : 0 ≤ k
    · go_wp2
      all_goals go_roundw
      case measure => simp [intOf]; omega
      case measure => simp [intOf]; omega
      case measure => simp [intOf]; omega
      all_goals clear h0 h1 l0 l1
      · exact ⟨k - 1, _, _, by omega, by omega, rfl, (times_one a0 a1 b0 b1 hk H (by assumption)).1 (by assumption), rfl⟩
      · exact ⟨k - 1, _, _, by omega, by omega, rfl, (times_one a0 a1 b0 b1 hk H (by assumption)).2 (by assumption), rfl⟩
      · exact ⟨k - 1, _, _, by omega, by omega, rfl, times_none a0 a1 b0 b1 hk H (by assumption), rfl⟩
    · obtain ⟨eh, el⟩ := times_end (by omega) k0 H
      have EH := Lib.hid eh
      have EL := Lib.hid el
      clear eh el
      go_wp2
      rw [EH.out, EL.out]
      exact bodyPost_ret (v := .agg #[.int .u64 (a * b / 18446744073709551616), .int .u64 (a * b % 18446744073709551616)]) (by simp [results, Try.results32, go_sem]) rfl ⟨rfl, ((Below.refl _ _).alloc (Nat.le_refl _) _).alloc (by simp) _⟩
end Go.Proofs.Ytbamdilihpnhjaa.Wide
