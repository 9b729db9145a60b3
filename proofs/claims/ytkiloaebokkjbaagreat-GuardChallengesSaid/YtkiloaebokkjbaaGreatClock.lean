/-
  The contracts of package clock and of the reference's functions beside it. Each leaves the world as it was.
-/
import Derived.Test.YtkiloaebokkjbaaGreatRow
import Derived.Test.YtkiloaebokkjbaaGreatM10
import Derived.LoopTactic
set_option linter.unusedSimpArgs false
set_option linter.unusedVariables false
namespace Go.Proofs.YtkiloaebokkjbaaGreat.Clock
set_option linter.unusedVariables false
set_option maxRecDepth 20000
open Go.ChangeShapes Go.WideShapes Go.ChangeAt Go.RowKit
open Go.Proofs.YtkiloaebokkjbaaGreat.Base Go.Proofs.YtkiloaebokkjbaaGreat.Sat

def least (l : List Int) : Int := l.foldl min 18446744073709551615
theorem since_any (a b : Int) (a0 : 0 ≤ a) (a1 : a ≤ 18446744073709551615) (b0 : 0 ≤ b) (b1 : b ≤ 18446744073709551615) (w : World) :
    Calls Tryz.prog 133 #[.int .u64 a, .int .u64 b] w fun e w' => e = .returned (.int .u64 (sub a b)) ∧ w = w' := by
  go_enter Tryz.func133, Tryz.ntmps133
  go_wp2_with (go_at_call 85; refine (sub_any a b a0 a1 b0 b1 _).mono ?_; rintro e w' ⟨rfl, rfl⟩)
  go_ret
  exact ⟨rfl, rfl⟩
end Go.Proofs.YtkiloaebokkjbaaGreat.Clock
