/-
  The reference's rounds by contract.
-/
import Derived.Test.YtbamdilihpnhjaaRoundPlain
import Derived.Test.YtbamdilihpnhjaaSatShl
import Derived.Test.YtbamdilihpnhjaaHop
import Derived.Test.YtbamdilihpnhjaaPlus
import Derived.Test.YtbamdilihpnhjaaMin3
import Derived.Lib.Hide
import Derived.BigQuiet
import Derived.Deep.QuietTactic
import Derived.Outline
import Derived.Deep.CutBlock
import Derived.Deep.DeepCutAuto
set_option linter.unusedSimpArgs false
set_option linter.unusedVariables false
namespace Go.Proofs.Ytbamdilihpnhjaa.Round
set_option linter.unusedVariables false
set_option maxRecDepth 20000
open Go.ChangeShapes Go.WideShapes Go.ChangeAt Go.RowKit
open Go.Proofs.Ytbamdilihpnhjaa.Base Go.Proofs.Ytbamdilihpnhjaa.RoundPlain Go.Proofs.Ytbamdilihpnhjaa.Hop

theorem results_rowR {P : Program} {fn : Func} {p u : Tmp} {ty : TypeId} (h : fn.results = #[.cell p ty, .tmp u]) (tmps : Array Value) (w : World) (g : Nat) (t : TypeId) (cs : Array Value) (d : TypeDesc)
    (hp : tmps.getD p undef = .pointer (some ⟨g, 0, none⟩)) (hg : Blk w g cs t)
    (hu : P.underlying ty = some d) (hd : (match d with | .struct _ | .array _ _ => true | _ => false) = true) (hi : (P.info? ty).map (·.size) = some cs.size) :
    (results fn tmps).run P w = .ok (.tuple #[.agg cs, tmps.getD u undef]) w := by
  rw [results_cell_tmp h, hp]
  simp [asAddr, run_loadVar_row w g t ty cs (0, 0) d hg hu hd hi]
end Go.Proofs.Ytbamdilihpnhjaa.Round
