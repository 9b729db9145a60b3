/-
  The contract of math/bits.Div64, entered where the upper word is less than the divisor: quotient and remainder; the world is as it was but for draws of an order.
-/
import Derived.Test.YtifhklnnfnondaaRows
import Derived.Test.YtifhklnnfnondaaWideDigit
import Derived.Test.YtifhklnnfnondaaBase
import Derived.Test.YtifhklnnfnondaaBits
import Derived.WalkKit
import Derived.ProofKit
import Derived.OpenShut
import Derived.Lib.Hide
import Derived.LoopTactic
import Derived.Deep.QuietTactic
import Derived.BigQuiet
import Derived.Deep.CutBlock
import Derived.Deep.DeepCutAuto
namespace Go.Proofs.Ytifhklnnfnondaa.Wide
open Go.ChangeShapes Go.WideShapes Go.ChangeAt Go.RowKit
set_option linter.unusedVariables false
theorem ret_u64v {a b : Int} (h : a = b) : Value.int .u64 a = .int .u64 b := by rw [h]
end Go.Proofs.Ytifhklnnfnondaa.Wide
