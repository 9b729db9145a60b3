import Derived.Test.YtkiloaebokkjbaaGreatRows
import Derived.Test.YtkiloaebokkjbaaGreatM2
import Derived.Lib.LaidTab
import Derived.LaidMore
import Derived.LaidHandle
import Derived.MakeChecks
import Derived.Stop.LaidErr
set_option linter.unusedSimpArgs false
set_option linter.unusedVariables false
namespace Go.Proofs.YtkiloaebokkjbaaGreat.Tab
end Go.Proofs.YtkiloaebokkjbaaGreat.Tab
