/-
  Contract of the law's turned: one field of seventeen is another number.
-/
import Derived.Test.YtnnpklnhdfpnjaaRows
import Derived.Test.YtnnpklnhdfpnjaaRowSt
import Derived.Test.YtnnpklnhdfpnjaaConfPlain
import Derived.WalkKit
import Derived.ProofKit
import Derived.OpenShut
import Derived.WalkSpells
import Derived.Lib.Hide
import Derived.Deep.Cut
set_option linter.unusedSimpArgs false
set_option linter.unusedVariables false
namespace Go.Proofs.Ytnnpklnhdfpnjaa.Conf
set_option linter.unusedVariables false
set_option maxRecDepth 20000
open Go.ChangeShapes Go.WideShapes Go.ChangeAt Go.RowKit
open Go.Proofs.Ytnnpklnhdfpnjaa.Base Go.Proofs.Ytnnpklnhdfpnjaa.ConfPlain

theorem i64_wrap_lo (n : Int) : -9223372036854775808 ≤ IntKind.i64.wrap n := by simp [IntKind.wrap, IntKind.bits, IntKind.signed]; omega
theorem i64_wrap_hi (n : Int) : IntKind.i64.wrap n ≤ 9223372036854775807 := by simp [IntKind.wrap, IntKind.bits, IntKind.signed]; omega
/-- Each number is of its kind. -/
def Rng (c : C) : Prop := -9223372036854775808 ≤ c.bits ∧ c.bits ≤ 9223372036854775807 ∧ 0 ≤ c.one ∧ c.one ≤ 18446744073709551615 ∧ -9223372036854775808 ≤ c.ring ∧ c.ring ≤ 9223372036854775807 ∧ 0 ≤ c.limit ∧ c.limit ≤ 18446744073709551615 ∧ -9223372036854775808 ≤ c.room ∧ c.room ≤ 9223372036854775807 ∧ 0 ≤ c.mss ∧ c.mss ≤ 18446744073709551615 ∧ 0 ≤ c.initial ∧ c.initial ≤ 18446744073709551615 ∧ 0 ≤ c.least ∧ c.least ≤ 18446744073709551615 ∧ 0 ≤ c.most ∧ c.most ≤ 18446744073709551615 ∧ -9223372036854775808 ≤ c.algo ∧ c.algo ≤ 9223372036854775807 ∧ 0 ≤ c.first ∧ c.first ≤ 18446744073709551615 ∧ 0 ≤ c.grain ∧ c.grain ≤ 18446744073709551615 ∧ 0 ≤ c.cap ∧ c.cap ≤ 18446744073709551615 ∧ 0 ≤ c.burst ∧ c.burst ≤ 18446744073709551615 ∧ 0 ≤ c.slowest ∧ c.slowest ≤ 18446744073709551615 ∧ -9223372036854775808 ≤ c.chal ∧ c.chal ≤ 9223372036854775807 ∧ 0 ≤ c.every ∧ c.every ≤ 18446744073709551615
end Go.Proofs.Ytnnpklnhdfpnjaa.Conf
