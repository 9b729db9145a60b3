/-
  No cell of these rows narrows 'for every input' (looked for: loops, veiled, ifaces, maps, wideKeys, modest, calm, conditions, laid).
  DERIVED. THE GIVEN ROWS OF THIS SEAT. 4 by the template 'for every input the law returns true; each argument reads behind the call as it read before'; 0 by the template 'total and deterministic' (their statements: YtbamdilihpnhjaaTotals.lean).
  GIVEN WITH THE SEED: the statements are not yours to turn. If you find one false, say at which input.
  Laid BY PROGRAM, IN A SANDBOX (cutbox-rows.mjs): the forced cells as the released guide's own fill.sh prints them over the translation 3c9f1a09c53abd41… (all of the seat's roots in one cut). By AI agents, Wed Nov 11 2026. No macro, syntax, notation, axiom, sorry.
-/
import Derived.Test.YtbamdilihpnhjaaChecked
import GoSem.Claim
import GoSem.ClaimJoined
import GoSem.ClaimMapViews
import Derived.JoinedTies
import Derived.KernelRfl
namespace Go.Proofs.Ytbamdilihpnhjaa
/- THE CELL 'sum', in the pinned program and in every row, IS THE sha256 OF THE DUMP (.gsa) THAT YtbamdilihpnhjaaProg.lean LOADS. Nothing in Lean hashes anything: it is a label: what it is worth is what the hold of that sum in a sandbox is worth. -/
noncomputable def Try.pinned : Pinned := { name := "ytbamdilihpnhjaa", sum := "3c9f1a09c53abd41b8b202ef4e64fb67137b4a281e311b0fb55dc2c9448b7e54", checked := Try.checked }
namespace Rows
def none {H : Type} : Left H := { results := [], args := [] }

/-- 'splittallylaw24.PacerTakes': WHATEVER THE INPUT: true; the input reads as it did. -/
def pacerTakesSpec : ChangeSpec := { name := "pacerTakes", fn := fun _ => fun
  | [d1, d2, d3, d4] => { results := [.lit (.bool true)], args := [d1, d2, d3, d4] }
  | _ => none }
def pacerTakesRow : OpenClaim := { program := "ytbamdilihpnhjaa", sum := "3c9f1a09c53abd41b8b202ef4e64fb67137b4a281e311b0fb55dc2c9448b7e54", func := "splittally/splittallylaw24.PacerTakes", spec := "pacerTakes", inPlace := ["math/bits.Add64"], named := ["math/bits.divideError", "math/bits.overflowError"], apart := false }
def PacerTakesSaid : Prop := pacerTakesRow.holds Try.pinned (OpenSpec.ofChange pacerTakesSpec)

/-- ITS FALSE NEIGHBOUR: 'it returns false'. Refute it at one input. -/
def pacerTakesWrong : ChangeSpec := { name := "pacerTakes", fn := fun _ => fun
  | [d1, d2, d3, d4] => { results := [.lit (.bool false)], args := [d1, d2, d3, d4] }
  | _ => none }
def PacerTakesWrongFalsely : Prop := pacerTakesRow.holds Try.pinned (OpenSpec.ofChange pacerTakesWrong)

/-- 'splittallylaw24.PacerTwice': WHATEVER THE INPUT: true; the input reads as it did. -/
def pacerTwiceSpec : ChangeSpec := { name := "pacerTwice", fn := fun _ => fun
  | [d1, d2, d3, d4] => { results := [.lit (.bool true)], args := [d1, d2, d3, d4] }
  | _ => none }
def pacerTwiceRow : OpenClaim := { program := "ytbamdilihpnhjaa", sum := "3c9f1a09c53abd41b8b202ef4e64fb67137b4a281e311b0fb55dc2c9448b7e54", func := "splittally/splittallylaw24.PacerTwice", spec := "pacerTwice", inPlace := ["math/bits.Add64"], named := ["math/bits.divideError", "math/bits.overflowError"], apart := false }
def PacerTwiceSaid : Prop := pacerTwiceRow.holds Try.pinned (OpenSpec.ofChange pacerTwiceSpec)

/-- ITS FALSE NEIGHBOUR: 'it returns false'. Refute it at one input. -/
def pacerTwiceWrong : ChangeSpec := { name := "pacerTwice", fn := fun _ => fun
  | [d1, d2, d3, d4] => { results := [.lit (.bool false)], args := [d1, d2, d3, d4] }
  | _ => none }
def PacerTwiceWrongFalsely : Prop := pacerTwiceRow.holds Try.pinned (OpenSpec.ofChange pacerTwiceWrong)

/-- 'splittallylaw24.PacerNext': WHATEVER THE INPUT: true; the input reads as it did. -/
def pacerNextSpec : ChangeSpec := { name := "pacerNext", fn := fun _ => fun
  | [d1, d2, d3, d4, d5, d6] => { results := [.lit (.bool true)], args := [d1, d2, d3, d4, d5, d6] }
  | _ => none }
def pacerNextRow : OpenClaim := { program := "ytbamdilihpnhjaa", sum := "3c9f1a09c53abd41b8b202ef4e64fb67137b4a281e311b0fb55dc2c9448b7e54", func := "splittally/splittallylaw24.PacerNext", spec := "pacerNext", inPlace := ["math/bits.Add64"], named := ["math/bits.divideError", "math/bits.overflowError"], apart := false }
def PacerNextSaid : Prop := pacerNextRow.holds Try.pinned (OpenSpec.ofChange pacerNextSpec)

/-- ITS FALSE NEIGHBOUR: 'it returns false'. Refute it at one input. -/
def pacerNextWrong : ChangeSpec := { name := "pacerNext", fn := fun _ => fun
  | [d1, d2, d3, d4, d5, d6] => { results := [.lit (.bool false)], args := [d1, d2, d3, d4, d5, d6] }
  | _ => none }
def PacerNextWrongFalsely : Prop := pacerNextRow.holds Try.pinned (OpenSpec.ofChange pacerNextWrong)

/-- 'splittallylaw24.PacerBounds': WHATEVER THE INPUT: true; the input reads as it did. -/
def pacerBoundsSpec : ChangeSpec := { name := "pacerBounds", fn := fun _ => fun
  | [d1, d2, d3] => { results := [.lit (.bool true)], args := [d1, d2, d3] }
  | _ => none }
def pacerBoundsRow : OpenClaim := { program := "ytbamdilihpnhjaa", sum := "3c9f1a09c53abd41b8b202ef4e64fb67137b4a281e311b0fb55dc2c9448b7e54", func := "splittally/splittallylaw24.PacerBounds", spec := "pacerBounds", inPlace := ["math/bits.Add64"], named := ["math/bits.divideError", "math/bits.overflowError"], apart := false }
def PacerBoundsSaid : Prop := pacerBoundsRow.holds Try.pinned (OpenSpec.ofChange pacerBoundsSpec)

/-- ITS FALSE NEIGHBOUR: 'it returns false'. Refute it at one input. -/
def pacerBoundsWrong : ChangeSpec := { name := "pacerBounds", fn := fun _ => fun
  | [d1, d2, d3] => { results := [.lit (.bool false)], args := [d1, d2, d3] }
  | _ => none }
def PacerBoundsWrongFalsely : Prop := pacerBoundsRow.holds Try.pinned (OpenSpec.ofChange pacerBoundsWrong)

/- THE SECOND FORM. 'bulk': how many values and letters a reading holds, each counted each time it is reached (what is shared counts as often as it is met; a slice's spare places count too). A statement '..UptoSaid' is the law's where the arguments, and the package variables that the reading takes, are together of bulk at most 1048576: NARROWER than '..Said'. Prove '..Said' where nothing that the law and all that it calls make is longer than what came in: it says more and counts as full. Else prove '..UptoSaid'. A law counts once. -/
mutual
def uptoBulk {H : Type} : DataW H → Nat
  | .lit (.string bytes) => bytes.length + 1
  | .lit _ => 1
  | .nil => 1
  | .ptr d => uptoBulk d + 1
  | .slice elems spare => uptoBulkAll elems + uptoBulkAll spare + 1
  | .agg parts => uptoBulkAll parts + 1
  | .iface _ d => uptoBulk d + 1
  | .map entries => uptoBulkEntries entries + 1
  | .held _ => 1
def uptoBulkAll {H : Type} : List (DataW H) → Nat
  | [] => 0
  | d :: r => uptoBulk d + uptoBulkAll r
def uptoBulkEntries {H : Type} : List (Lit × DataW H) → Nat
  | [] => 0
  | x :: r => uptoBulkEntry x + uptoBulkEntries r
def uptoBulkEntry {H : Type} : Lit × DataW H → Nat
  | (.string bytes, d) => bytes.length + uptoBulk d + 1
  | (_, d) => uptoBulk d + 1
 end
def uptoSmall : (H : Type) → List (DataW H) → Bool := fun _ ds => decide (uptoBulkAll ds ≤ 1048576)
def OpenSpec.upto (s : _root_.Go.ChangeSpec) : _root_.Go.OpenSpec := { _root_.Go.OpenSpec.ofChange s with cond := some uptoSmall }

/-- 'splittallylaw24.PacerTakes', WHERE WHAT IT READS IS OF BULK AT MOST 1048576: true; the input reads as it did. -/
def pacerTakesUptoRow : OpenClaim := { program := "ytbamdilihpnhjaa", sum := "3c9f1a09c53abd41b8b202ef4e64fb67137b4a281e311b0fb55dc2c9448b7e54", func := "splittally/splittallylaw24.PacerTakes", spec := "pacerTakes", inPlace := ["math/bits.Add64"], named := ["math/bits.divideError", "math/bits.overflowError"], apart := false, narrowed := true }
def PacerTakesUptoSaid : Prop := pacerTakesUptoRow.holds Try.pinned (OpenSpec.upto pacerTakesSpec)

/-- 'splittallylaw24.PacerTwice', WHERE WHAT IT READS IS OF BULK AT MOST 1048576: true; the input reads as it did. -/
def pacerTwiceUptoRow : OpenClaim := { program := "ytbamdilihpnhjaa", sum := "3c9f1a09c53abd41b8b202ef4e64fb67137b4a281e311b0fb55dc2c9448b7e54", func := "splittally/splittallylaw24.PacerTwice", spec := "pacerTwice", inPlace := ["math/bits.Add64"], named := ["math/bits.divideError", "math/bits.overflowError"], apart := false, narrowed := true }
def PacerTwiceUptoSaid : Prop := pacerTwiceUptoRow.holds Try.pinned (OpenSpec.upto pacerTwiceSpec)

/-- 'splittallylaw24.PacerNext', WHERE WHAT IT READS IS OF BULK AT MOST 1048576: true; the input reads as it did. -/
def pacerNextUptoRow : OpenClaim := { program := "ytbamdilihpnhjaa", sum := "3c9f1a09c53abd41b8b202ef4e64fb67137b4a281e311b0fb55dc2c9448b7e54", func := "splittally/splittallylaw24.PacerNext", spec := "pacerNext", inPlace := ["math/bits.Add64"], named := ["math/bits.divideError", "math/bits.overflowError"], apart := false, narrowed := true }
def PacerNextUptoSaid : Prop := pacerNextUptoRow.holds Try.pinned (OpenSpec.upto pacerNextSpec)

/-- 'splittallylaw24.PacerBounds', WHERE WHAT IT READS IS OF BULK AT MOST 1048576: true; the input reads as it did. -/
def pacerBoundsUptoRow : OpenClaim := { program := "ytbamdilihpnhjaa", sum := "3c9f1a09c53abd41b8b202ef4e64fb67137b4a281e311b0fb55dc2c9448b7e54", func := "splittally/splittallylaw24.PacerBounds", spec := "pacerBounds", inPlace := ["math/bits.Add64"], named := ["math/bits.divideError", "math/bits.overflowError"], apart := false, narrowed := true }
def PacerBoundsUptoSaid : Prop := pacerBoundsUptoRow.holds Try.pinned (OpenSpec.upto pacerBoundsSpec)

end Rows
end Go.Proofs.Ytbamdilihpnhjaa
