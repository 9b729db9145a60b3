/-
  Contract of math/bits.Len64: the number of bits of x; the world is as it was. (Without WalkKit: the walk then shows the table's index as x % 256.)
-/
import Derived.Test.YtbamdilihpnhjaaRows
import Derived.Lib.Strings
import Derived.Lib.Slices
import Derived.Lib.Small
import Derived.Lib.Walk
import Derived.Lib.BitFns
set_option linter.unusedSimpArgs false
set_option linter.unusedVariables false
namespace Go.Proofs.Ytbamdilihpnhjaa.Bits

/-- The table's byte of the head of x, behind k bits: where the head fits a byte and, if k is not 0, is not 0. -/
theorem len_head (x q : Int) (k : Nat) (h0 : 0 ≤ x) (h1 : x ≤ 18446744073709551615) (hq0 : 0 ≤ q) (hq1 : q ≤ 255) (hq : q.toNat = x.toNat / 2 ^ k) (hk : 2 ^ k ≤ x.toNat ∨ k = 0) :
    Lib.len8 q = (Lib.bitLen x.toNat : Int) - k ∧ 0 ≤ Lib.len8 q ∧ Lib.len8 q ≤ 8 := by
  have e : Lib.bitLen x.toNat = k + Lib.bitLen (x.toNat / 2 ^ k) := by
    rcases hk with hk | rfl
    · exact Lib.bitLen_shift k x.toNat hk (by omega)
    · simp
  have hl := Lib.bitLen_le8' q hq0 hq1
  rw [Lib.len8_of q hq0 hq1]
  rw [hq] at hl ⊢
  omega

set_option maxHeartbeats 4000000 in
set_option maxRecDepth 100000 in
theorem len64 (x : Int) (w : World) (h0 : 0 ≤ x) (h1 : x ≤ 18446744073709551615) :
    Calls Try.prog 41 #[.int .u64 x] w fun e w' => e = .returned (.int .i64 (Lib.bitLen x.toNat)) ∧ w = w' := by
  go_enter Try.func41, Try.ntmps41
  go_wp2
  all_goals go_ret
  all_goals refine ⟨congrArg Ending.returned (congrArg (Value.int IntKind.i64) ?_), rfl⟩
  all_goals first
    | (obtain ⟨a, b, c⟩ := len_head x (x / 4294967296 / 65536 / 256 % 256) 56 h0 h1 (by omega) (by omega) (by omega) (by omega); omega)
    | (obtain ⟨a, b, c⟩ := len_head x (x / 4294967296 / 65536 % 256) 48 h0 h1 (by omega) (by omega) (by omega) (by omega); omega)
    | (obtain ⟨a, b, c⟩ := len_head x (x / 4294967296 / 256 % 256) 40 h0 h1 (by omega) (by omega) (by omega) (by omega); omega)
    | (obtain ⟨a, b, c⟩ := len_head x (x / 4294967296 % 256) 32 h0 h1 (by omega) (by omega) (by omega) (by omega); omega)
    | (obtain ⟨a, b, c⟩ := len_head x (x / 65536 / 256 % 256) 24 h0 h1 (by omega) (by omega) (by omega) (by omega); omega)
    | (obtain ⟨a, b, c⟩ := len_head x (x / 65536 % 256) 16 h0 h1 (by omega) (by omega) (by omega) (by omega); omega)
    | (obtain ⟨a, b, c⟩ := len_head x (x / 256 % 256) 8 h0 h1 (by omega) (by omega) (by omega) (by omega); omega)
    | (obtain ⟨a, b, c⟩ := len_head x (x % 256) 0 h0 h1 (by omega) (by omega) (by omega) (by omega); omega)
end Go.Proofs.Ytbamdilihpnhjaa.Bits
