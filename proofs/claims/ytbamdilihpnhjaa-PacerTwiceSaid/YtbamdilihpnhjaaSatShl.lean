/-
  The contracts of sat.Shl and of the reference's shift. Each leaves the world as it was.
-/
import Derived.Test.YtbamdilihpnhjaaSat
set_option linter.unusedSimpArgs false
set_option linter.unusedVariables false
namespace Go.Proofs.Ytbamdilihpnhjaa.Sat
set_option linter.unusedVariables false
set_option maxRecDepth 20000
open Go.ChangeShapes Go.WideShapes Go.ChangeAt Go.RowKit

end Go.Proofs.Ytbamdilihpnhjaa.Sat
