/-
  Contracts of the reference's sums and of its comparison of lists of words.
-/
import Derived.Test.YtkiloaebokkjbaaGreatRows
import Derived.Test.YtkiloaebokkjbaaGreatM2
import Derived.Test.YtkiloaebokkjbaaGreatBools
import Derived.Test.YtkiloaebokkjbaaGreatFoldPlain
import Derived.WalkKit
import Derived.ProofKit
import Derived.OpenShut
import Derived.WalkSpells
import Derived.Deep.RegionWith
import Derived.LoopTactic
import Derived.Lib.Hide
import Derived.OwnWalk
import Derived.Deep.OwnRows
import Derived.BigQuiet
set_option linter.unusedSimpArgs false
set_option linter.unusedVariables false
namespace Go.Proofs.YtkiloaebokkjbaaGreat.Fold
set_option linter.unusedVariables false
set_option maxRecDepth 20000
open Go.ChangeShapes Go.WideShapes Go.ChangeAt Go.RowKit
open Go.Proofs.YtkiloaebokkjbaaGreat.Base Go.Proofs.YtkiloaebokkjbaaGreat.FoldPlain

theorem info64 : (Tryz.prog.info? 23).map (fun i => (i.zero, i.size, i.bytes)) = some (some (.int .u64 0), 1, 8) := by kernel_rfl
theorem infob : (Tryz.prog.info? 4).map (fun i => (i.zero, i.size, i.bytes)) = some (some (.bool false), 1, 1) := by kernel_rfl
/-- What the making of sums comes to. -/
def SumPost (w : World) (k : Nat) (vs : List Value) : Ending → World → Prop := fun e w' => ∃ a c, e = .returned (.slice a k c) ∧ k ≤ c ∧ c ≤ maxLen ∧ (a = none → k = 0 ∧ c = 0) ∧ RowIn (fun i => w.heap.size ≤ i) w' a vs ∧ Below w.heap.size w w'
end Go.Proofs.YtkiloaebokkjbaaGreat.Fold
