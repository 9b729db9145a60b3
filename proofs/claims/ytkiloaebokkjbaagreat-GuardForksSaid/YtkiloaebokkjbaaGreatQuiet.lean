/-
  Whole structs read in a region that only reads: by their block, not cell by cell. Nothing here names a program.
-/
import Derived.Test.YtkiloaebokkjbaaGreatMid
import Derived.Test.YtkiloaebokkjbaaGreatIn
set_option linter.unusedSimpArgs false
set_option linter.unusedVariables false
namespace Go.Proofs.YtkiloaebokkjbaaGreat.Base
set_option linter.unusedVariables false
open Go.ChangeShapes Go.WideShapes Go.RowKit
section
variable {P : Program} {C : World → Prop} {K : Act → Prop} {a : Act}
theorem ld_row {ρ : Operand → Value} {o : Oper} {u : World} (ty : TypeId) (x : Operand) (ho : o.op = .load ty x) {g : Nat} {cs : Array Value} {t : TypeId} {d : TypeDesc} (hx : ρ x = .pointer (some ⟨g, 0, none⟩)) (hB : Blk u g cs t)
    (hu : P.underlying ty = some d) (hd : (match d with | .struct _ | .array _ _ => true | _ => false) = true) (hi : (P.info? ty).map (·.size) = some cs.size) : (execOp ρ o).run P u = .ok (.value (.agg cs)) u := by
  unfold execOp
  simp only [ho, hx, Instr.loadAt, Instr.sureAddr, Sem.run_bind, Sem.run_pure, Result.andThen_ok, run_loadVar_row u g t ty cs (0, 0) d hB hu hd hi]
end
end Go.Proofs.YtkiloaebokkjbaaGreat.Base
