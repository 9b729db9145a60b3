/-
  Windows by value: their cells; the reference's Slow, GrowReno, CutReno by contract.
-/
import Derived.Test.YtbamdilihpnhjaaRenoPlain
import Derived.Test.YtbamdilihpnhjaaHop
import Derived.Test.YtbamdilihpnhjaaPlus
import Derived.Test.YtbamdilihpnhjaaMin3
import Derived.Test.YtbamdilihpnhjaaTail2
import Derived.Lib.Hide
import Derived.BigQuiet
import Derived.Deep.QuietTactic
import Derived.Outline
import Derived.Deep.CutBlock
import Derived.Deep.DeepCutAuto
set_option linter.unusedSimpArgs false
set_option linter.unusedVariables false
namespace Go.Proofs.Ytbamdilihpnhjaa.Reno
set_option linter.unusedVariables false
set_option maxRecDepth 20000
open Go.ChangeShapes Go.WideShapes Go.ChangeAt Go.RowKit
open Go.Proofs.Ytbamdilihpnhjaa.Base Go.Proofs.Ytbamdilihpnhjaa.RenoPlain Go.Proofs.Ytbamdilihpnhjaa.Hop

/-- A window's cells. -/
def wc (w : Wn) : Array Value := #[.int .u64 w.cw, .int .u64 w.th, .int .u64 w.ac, .int .u64 w.pk, .int .u64 w.ep, .int .u64 w.k, .int .u64 w.fr]
/-- What a function of windows comes to. -/
def WinPost (w : World) (x : Wn) : Ending → World → Prop := fun e w' => e = .returned (.agg (wc x)) ∧ Below w.heap.size w w'
theorem blk7 {w : World} {b : Nat} {v0 v1 v2 v3 v4 v5 v6 : Value} {T : TypeId} (h : Blk w b #[v0, v1, v2, v3, v4, v5, v6] T) :
    w.cell? ⟨b, 0, none⟩ = some v0 ∧ w.cell? ⟨b, 1, none⟩ = some v1 ∧ w.cell? ⟨b, 2, none⟩ = some v2 ∧ w.cell? ⟨b, 3, none⟩ = some v3 ∧ w.cell? ⟨b, 4, none⟩ = some v4 ∧ w.cell? ⟨b, 5, none⟩ = some v5 ∧ w.cell? ⟨b, 6, none⟩ = some v6 :=
  ⟨h.cell 0, h.cell 1, h.cell 2, h.cell 3, h.cell 4, h.cell 5, h.cell 6⟩
theorem st_cell {ρ : Operand → Value} {o : Oper} {u : World} (x y : Operand) (ho : o.op = .store 22 x y) {g i : Nat} {n m : Int} {cs : Array Value} {t : TypeId} (hx : ρ x = .pointer (some ⟨g, i, none⟩)) (hy : ρ y = .int .u64 n) (hB : Blk u g cs t) (hi : cs[i]? = some (.int .u64 m)) : (execOp ρ o).run Try.prog u = .ok .skip (u.setCell ⟨g, i, none⟩ (.int .u64 n)) := by
  have hc := hB.cell i
  rw [hi] at hc
  have hf := hB.free i
  unfold execOp
  rw [ho]
  simp [hx, hy, hc, hf, go_sem]
end Go.Proofs.Ytbamdilihpnhjaa.Reno
