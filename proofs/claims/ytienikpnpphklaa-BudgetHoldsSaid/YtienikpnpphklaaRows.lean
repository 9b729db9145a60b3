/-
  No cell of these rows narrows 'for every input' (looked for: loops, veiled, ifaces, maps, wideKeys, modest, calm, conditions, laid).
  DERIVED. THE GIVEN ROWS OF THIS SEAT. 4 by the template 'for every input the law returns true; each argument reads behind the call as it read before'; 0 by the template 'total and deterministic' (their statements: YtienikpnpphklaaTotals.lean).
  GIVEN WITH THE SEED: the statements are not yours to turn. If you find one false, say at which input.
  Laid BY PROGRAM, IN A SANDBOX (cutbox-rows.mjs): the forced cells as the released guide's own fill.sh prints them over the translation 321bb53c81e87705… (all of the seat's roots in one cut). By AI agents, Wed Nov 11 2026. No macro, syntax, notation, axiom, sorry.
-/
import Derived.Test.YtienikpnpphklaaChecked
import GoSem.Claim
import GoSem.ClaimJoined
import GoSem.ClaimMapViews
import Derived.JoinedTies
import Derived.KernelRfl
namespace Go.Proofs.Ytienikpnpphklaa
/- THE CELL 'sum', in the pinned program and in every row, IS THE sha256 OF THE DUMP (.gsa) THAT YtienikpnpphklaaProg.lean LOADS. Nothing in Lean hashes anything: it is a label: what it is worth is what the hold of that sum in a sandbox is worth. -/
noncomputable def Try.pinned : Pinned := { name := "ytienikpnpphklaa", sum := "321bb53c81e87705557f6901a60bfd81985e57dfac02247aab9e0db05b60691e", checked := Try.checked }
namespace Rows
def none {H : Type} : Left H := { results := [], args := [] }

/-- 'splittallylaw15.BudgetTells': WHATEVER THE INPUT: true; the input reads as it did. -/
def budgetTellsSpec : ChangeSpec := { name := "budgetTells", fn := fun _ => fun
  | [d1, d2, d3] => { results := [.lit (.bool true)], args := [d1, d2, d3] }
  | _ => none }
def budgetTellsRow : OpenClaim := { program := "ytienikpnpphklaa", sum := "321bb53c81e87705557f6901a60bfd81985e57dfac02247aab9e0db05b60691e", func := "splittally/splittallylaw15.BudgetTells", spec := "budgetTells", apart := false }
def BudgetTellsSaid : Prop := budgetTellsRow.holds Try.pinned (OpenSpec.ofChange budgetTellsSpec)

/-- ITS FALSE NEIGHBOUR: 'it returns false'. Refute it at one input. -/
def budgetTellsWrong : ChangeSpec := { name := "budgetTells", fn := fun _ => fun
  | [d1, d2, d3] => { results := [.lit (.bool false)], args := [d1, d2, d3] }
  | _ => none }
def BudgetTellsWrongFalsely : Prop := budgetTellsRow.holds Try.pinned (OpenSpec.ofChange budgetTellsWrong)

/-- 'splittallylaw15.BudgetHolds': WHATEVER THE INPUT: true; the input reads as it did. -/
def budgetHoldsSpec : ChangeSpec := { name := "budgetHolds", fn := fun _ => fun
  | [d1, d2, d3, d4] => { results := [.lit (.bool true)], args := [d1, d2, d3, d4] }
  | _ => none }
def budgetHoldsRow : OpenClaim := { program := "ytienikpnpphklaa", sum := "321bb53c81e87705557f6901a60bfd81985e57dfac02247aab9e0db05b60691e", func := "splittally/splittallylaw15.BudgetHolds", spec := "budgetHolds", apart := false }
def BudgetHoldsSaid : Prop := budgetHoldsRow.holds Try.pinned (OpenSpec.ofChange budgetHoldsSpec)

/-- ITS FALSE NEIGHBOUR: 'it returns false'. Refute it at one input. -/
def budgetHoldsWrong : ChangeSpec := { name := "budgetHolds", fn := fun _ => fun
  | [d1, d2, d3, d4] => { results := [.lit (.bool false)], args := [d1, d2, d3, d4] }
  | _ => none }
def BudgetHoldsWrongFalsely : Prop := budgetHoldsRow.holds Try.pinned (OpenSpec.ofChange budgetHoldsWrong)

/-- 'splittallylaw15.BudgetRests': WHATEVER THE INPUT: true; the input reads as it did. -/
def budgetRestsSpec : ChangeSpec := { name := "budgetRests", fn := fun _ => fun
  | [d1, d2, d3] => { results := [.lit (.bool true)], args := [d1, d2, d3] }
  | _ => none }
def budgetRestsRow : OpenClaim := { program := "ytienikpnpphklaa", sum := "321bb53c81e87705557f6901a60bfd81985e57dfac02247aab9e0db05b60691e", func := "splittally/splittallylaw15.BudgetRests", spec := "budgetRests", apart := false }
def BudgetRestsSaid : Prop := budgetRestsRow.holds Try.pinned (OpenSpec.ofChange budgetRestsSpec)

/-- ITS FALSE NEIGHBOUR: 'it returns false'. Refute it at one input. -/
def budgetRestsWrong : ChangeSpec := { name := "budgetRests", fn := fun _ => fun
  | [d1, d2, d3] => { results := [.lit (.bool false)], args := [d1, d2, d3] }
  | _ => none }
def BudgetRestsWrongFalsely : Prop := budgetRestsRow.holds Try.pinned (OpenSpec.ofChange budgetRestsWrong)

/-- 'splittallylaw15.BudgetForks': WHATEVER THE INPUT: true; the input reads as it did. -/
def budgetForksSpec : ChangeSpec := { name := "budgetForks", fn := fun _ => fun
  | [d1, d2, d3, d4] => { results := [.lit (.bool true)], args := [d1, d2, d3, d4] }
  | _ => none }
def budgetForksRow : OpenClaim := { program := "ytienikpnpphklaa", sum := "321bb53c81e87705557f6901a60bfd81985e57dfac02247aab9e0db05b60691e", func := "splittally/splittallylaw15.BudgetForks", spec := "budgetForks", apart := false }
def BudgetForksSaid : Prop := budgetForksRow.holds Try.pinned (OpenSpec.ofChange budgetForksSpec)

/-- ITS FALSE NEIGHBOUR: 'it returns false'. Refute it at one input. -/
def budgetForksWrong : ChangeSpec := { name := "budgetForks", fn := fun _ => fun
  | [d1, d2, d3, d4] => { results := [.lit (.bool false)], args := [d1, d2, d3, d4] }
  | _ => none }
def BudgetForksWrongFalsely : Prop := budgetForksRow.holds Try.pinned (OpenSpec.ofChange budgetForksWrong)

/- THE SECOND FORM. 'bulk': how many values and letters a reading holds, each counted each time it is reached (what is shared counts as often as it is met; a slice's spare places count too). A statement '..UptoSaid' is the law's where the arguments, and the package variables that the reading takes, are together of bulk at most 1048576: NARROWER than '..Said'. Prove '..Said' where nothing that the law and all that it calls make is longer than what came in: it says more and counts as full. Else prove '..UptoSaid'. A law counts once. -/
mutual
def uptoBulk {H : Type} : DataW H → Nat
  | .lit (.string bytes) => bytes.length + 1
  | .lit _ => 1
  | .nil => 1
  | .ptr d => uptoBulk d + 1
  | .slice elems spare => uptoBulkAll elems + uptoBulkAll spare + 1
  | .agg parts => uptoBulkAll parts + 1
  | .iface _ d => uptoBulk d + 1
  | .map entries => uptoBulkEntries entries + 1
  | .held _ => 1
def uptoBulkAll {H : Type} : List (DataW H) → Nat
  | [] => 0
  | d :: r => uptoBulk d + uptoBulkAll r
def uptoBulkEntries {H : Type} : List (Lit × DataW H) → Nat
  | [] => 0
  | x :: r => uptoBulkEntry x + uptoBulkEntries r
def uptoBulkEntry {H : Type} : Lit × DataW H → Nat
  | (.string bytes, d) => bytes.length + uptoBulk d + 1
  | (_, d) => uptoBulk d + 1
 end
def uptoSmall : (H : Type) → List (DataW H) → Bool := fun _ ds => decide (uptoBulkAll ds ≤ 1048576)
def OpenSpec.upto (s : _root_.Go.ChangeSpec) : _root_.Go.OpenSpec := { _root_.Go.OpenSpec.ofChange s with cond := some uptoSmall }

/-- 'splittallylaw15.BudgetTells', WHERE WHAT IT READS IS OF BULK AT MOST 1048576: true; the input reads as it did. -/
def budgetTellsUptoRow : OpenClaim := { program := "ytienikpnpphklaa", sum := "321bb53c81e87705557f6901a60bfd81985e57dfac02247aab9e0db05b60691e", func := "splittally/splittallylaw15.BudgetTells", spec := "budgetTells", apart := false, narrowed := true }
def BudgetTellsUptoSaid : Prop := budgetTellsUptoRow.holds Try.pinned (OpenSpec.upto budgetTellsSpec)

/-- 'splittallylaw15.BudgetHolds', WHERE WHAT IT READS IS OF BULK AT MOST 1048576: true; the input reads as it did. -/
def budgetHoldsUptoRow : OpenClaim := { program := "ytienikpnpphklaa", sum := "321bb53c81e87705557f6901a60bfd81985e57dfac02247aab9e0db05b60691e", func := "splittally/splittallylaw15.BudgetHolds", spec := "budgetHolds", apart := false, narrowed := true }
def BudgetHoldsUptoSaid : Prop := budgetHoldsUptoRow.holds Try.pinned (OpenSpec.upto budgetHoldsSpec)

/-- 'splittallylaw15.BudgetRests', WHERE WHAT IT READS IS OF BULK AT MOST 1048576: true; the input reads as it did. -/
def budgetRestsUptoRow : OpenClaim := { program := "ytienikpnpphklaa", sum := "321bb53c81e87705557f6901a60bfd81985e57dfac02247aab9e0db05b60691e", func := "splittally/splittallylaw15.BudgetRests", spec := "budgetRests", apart := false, narrowed := true }
def BudgetRestsUptoSaid : Prop := budgetRestsUptoRow.holds Try.pinned (OpenSpec.upto budgetRestsSpec)

/-- 'splittallylaw15.BudgetForks', WHERE WHAT IT READS IS OF BULK AT MOST 1048576: true; the input reads as it did. -/
def budgetForksUptoRow : OpenClaim := { program := "ytienikpnpphklaa", sum := "321bb53c81e87705557f6901a60bfd81985e57dfac02247aab9e0db05b60691e", func := "splittally/splittallylaw15.BudgetForks", spec := "budgetForks", apart := false, narrowed := true }
def BudgetForksUptoSaid : Prop := budgetForksUptoRow.holds Try.pinned (OpenSpec.upto budgetForksSpec)

end Rows
end Go.Proofs.Ytienikpnpphklaa
