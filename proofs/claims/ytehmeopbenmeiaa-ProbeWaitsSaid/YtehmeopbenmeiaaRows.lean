/-
  No cell of these rows narrows 'for every input' (looked for: loops, veiled, ifaces, maps, wideKeys, modest, calm, conditions, laid).
  DERIVED. THE GIVEN ROWS OF THIS SEAT. 4 by the template 'for every input the law returns true; each argument reads behind the call as it read before'; 0 by the template 'total and deterministic' (their statements: YtehmeopbenmeiaaTotals.lean).
  GIVEN WITH THE SEED: the statements are not yours to turn. If you find one false, say at which input.
  Laid BY PROGRAM, IN A SANDBOX (cutbox-rows.mjs): the forced cells as the released guide's own fill.sh prints them over the translation 8199d2575f00e906… (all of the seat's roots in one cut). By AI agents, Wed Nov 11 2026. No macro, syntax, notation, axiom, sorry.
-/
import Derived.Test.YtehmeopbenmeiaaChecked
import GoSem.Claim
import GoSem.ClaimJoined
import GoSem.ClaimMapViews
import Derived.JoinedTies
import Derived.KernelRfl
namespace Go.Proofs.Ytehmeopbenmeiaa
/- THE CELL 'sum', in the pinned program and in every row, IS THE sha256 OF THE DUMP (.gsa) THAT YtehmeopbenmeiaaProg.lean LOADS. Nothing in Lean hashes anything: it is a label: what it is worth is what the hold of that sum in a sandbox is worth. -/
noncomputable def Try.pinned : Pinned := { name := "ytehmeopbenmeiaa", sum := "8199d2575f00e906ab0a6f764e906b9891dece193f41e55242b5e3f46416ba51", checked := Try.checked }
namespace Rows
def none {H : Type} : Left H := { results := [], args := [] }

/-- 'splittallylaw19.ProbeDeadlines': WHATEVER THE INPUT: true; the input reads as it did. -/
def probeDeadlinesSpec : ChangeSpec := { name := "probeDeadlines", fn := fun _ => fun
  | [d1, d2, d3, d4] => { results := [.lit (.bool true)], args := [d1, d2, d3, d4] }
  | _ => none }
def probeDeadlinesRow : OpenClaim := { program := "ytehmeopbenmeiaa", sum := "8199d2575f00e906ab0a6f764e906b9891dece193f41e55242b5e3f46416ba51", func := "splittally/splittallylaw19.ProbeDeadlines", spec := "probeDeadlines", inPlace := ["math/bits.Add64"], apart := false }
def ProbeDeadlinesSaid : Prop := probeDeadlinesRow.holds Try.pinned (OpenSpec.ofChange probeDeadlinesSpec)

/-- ITS FALSE NEIGHBOUR: 'it returns false'. Refute it at one input. -/
def probeDeadlinesWrong : ChangeSpec := { name := "probeDeadlines", fn := fun _ => fun
  | [d1, d2, d3, d4] => { results := [.lit (.bool false)], args := [d1, d2, d3, d4] }
  | _ => none }
def ProbeDeadlinesWrongFalsely : Prop := probeDeadlinesRow.holds Try.pinned (OpenSpec.ofChange probeDeadlinesWrong)

/-- 'splittallylaw19.ProbeMoves': WHATEVER THE INPUT: true; the input reads as it did. -/
def probeMovesSpec : ChangeSpec := { name := "probeMoves", fn := fun _ => fun
  | [d1, d2] => { results := [.lit (.bool true)], args := [d1, d2] }
  | _ => none }
def probeMovesRow : OpenClaim := { program := "ytehmeopbenmeiaa", sum := "8199d2575f00e906ab0a6f764e906b9891dece193f41e55242b5e3f46416ba51", func := "splittally/splittallylaw19.ProbeMoves", spec := "probeMoves", inPlace := ["math/bits.Add64"], apart := false }
def ProbeMovesSaid : Prop := probeMovesRow.holds Try.pinned (OpenSpec.ofChange probeMovesSpec)

/-- ITS FALSE NEIGHBOUR: 'it returns false'. Refute it at one input. -/
def probeMovesWrong : ChangeSpec := { name := "probeMoves", fn := fun _ => fun
  | [d1, d2] => { results := [.lit (.bool false)], args := [d1, d2] }
  | _ => none }
def ProbeMovesWrongFalsely : Prop := probeMovesRow.holds Try.pinned (OpenSpec.ofChange probeMovesWrong)

/-- 'splittallylaw19.ProbeDoubles': WHATEVER THE INPUT: true; the input reads as it did. -/
def probeDoublesSpec : ChangeSpec := { name := "probeDoubles", fn := fun _ => fun
  | [d1, d2, d3, d4] => { results := [.lit (.bool true)], args := [d1, d2, d3, d4] }
  | _ => none }
def probeDoublesRow : OpenClaim := { program := "ytehmeopbenmeiaa", sum := "8199d2575f00e906ab0a6f764e906b9891dece193f41e55242b5e3f46416ba51", func := "splittally/splittallylaw19.ProbeDoubles", spec := "probeDoubles", inPlace := ["math/bits.Add64"], apart := false }
def ProbeDoublesSaid : Prop := probeDoublesRow.holds Try.pinned (OpenSpec.ofChange probeDoublesSpec)

/-- ITS FALSE NEIGHBOUR: 'it returns false'. Refute it at one input. -/
def probeDoublesWrong : ChangeSpec := { name := "probeDoubles", fn := fun _ => fun
  | [d1, d2, d3, d4] => { results := [.lit (.bool false)], args := [d1, d2, d3, d4] }
  | _ => none }
def ProbeDoublesWrongFalsely : Prop := probeDoublesRow.holds Try.pinned (OpenSpec.ofChange probeDoublesWrong)

/-- 'splittallylaw19.ProbeWaits': WHATEVER THE INPUT: true; the input reads as it did. -/
def probeWaitsSpec : ChangeSpec := { name := "probeWaits", fn := fun _ => fun
  | [d1, d2, d3] => { results := [.lit (.bool true)], args := [d1, d2, d3] }
  | _ => none }
def probeWaitsRow : OpenClaim := { program := "ytehmeopbenmeiaa", sum := "8199d2575f00e906ab0a6f764e906b9891dece193f41e55242b5e3f46416ba51", func := "splittally/splittallylaw19.ProbeWaits", spec := "probeWaits", inPlace := ["math/bits.Add64"], apart := false }
def ProbeWaitsSaid : Prop := probeWaitsRow.holds Try.pinned (OpenSpec.ofChange probeWaitsSpec)

/-- ITS FALSE NEIGHBOUR: 'it returns false'. Refute it at one input. -/
def probeWaitsWrong : ChangeSpec := { name := "probeWaits", fn := fun _ => fun
  | [d1, d2, d3] => { results := [.lit (.bool false)], args := [d1, d2, d3] }
  | _ => none }
def ProbeWaitsWrongFalsely : Prop := probeWaitsRow.holds Try.pinned (OpenSpec.ofChange probeWaitsWrong)

/- THE SECOND FORM. 'bulk': how many values and letters a reading holds, each counted each time it is reached (what is shared counts as often as it is met; a slice's spare places count too). A statement '..UptoSaid' is the law's where the arguments, and the package variables that the reading takes, are together of bulk at most 1048576: NARROWER than '..Said'. Prove '..Said' where nothing that the law and all that it calls make is longer than what came in: it says more and counts as full. Else prove '..UptoSaid'. A law counts once. -/
mutual
def uptoBulk {H : Type} : DataW H → Nat
  | .lit (.string bytes) => bytes.length + 1
  | .lit _ => 1
  | .nil => 1
  | .ptr d => uptoBulk d + 1
  | .slice elems spare => uptoBulkAll elems + uptoBulkAll spare + 1
  | .agg parts => uptoBulkAll parts + 1
  | .iface _ d => uptoBulk d + 1
  | .map entries => uptoBulkEntries entries + 1
  | .held _ => 1
def uptoBulkAll {H : Type} : List (DataW H) → Nat
  | [] => 0
  | d :: r => uptoBulk d + uptoBulkAll r
def uptoBulkEntries {H : Type} : List (Lit × DataW H) → Nat
  | [] => 0
  | x :: r => uptoBulkEntry x + uptoBulkEntries r
def uptoBulkEntry {H : Type} : Lit × DataW H → Nat
  | (.string bytes, d) => bytes.length + uptoBulk d + 1
  | (_, d) => uptoBulk d + 1
 end
def uptoSmall : (H : Type) → List (DataW H) → Bool := fun _ ds => decide (uptoBulkAll ds ≤ 1048576)
def OpenSpec.upto (s : _root_.Go.ChangeSpec) : _root_.Go.OpenSpec := { _root_.Go.OpenSpec.ofChange s with cond := some uptoSmall }

/-- 'splittallylaw19.ProbeDeadlines', WHERE WHAT IT READS IS OF BULK AT MOST 1048576: true; the input reads as it did. -/
def probeDeadlinesUptoRow : OpenClaim := { program := "ytehmeopbenmeiaa", sum := "8199d2575f00e906ab0a6f764e906b9891dece193f41e55242b5e3f46416ba51", func := "splittally/splittallylaw19.ProbeDeadlines", spec := "probeDeadlines", inPlace := ["math/bits.Add64"], apart := false, narrowed := true }
def ProbeDeadlinesUptoSaid : Prop := probeDeadlinesUptoRow.holds Try.pinned (OpenSpec.upto probeDeadlinesSpec)

/-- 'splittallylaw19.ProbeMoves', WHERE WHAT IT READS IS OF BULK AT MOST 1048576: true; the input reads as it did. -/
def probeMovesUptoRow : OpenClaim := { program := "ytehmeopbenmeiaa", sum := "8199d2575f00e906ab0a6f764e906b9891dece193f41e55242b5e3f46416ba51", func := "splittally/splittallylaw19.ProbeMoves", spec := "probeMoves", inPlace := ["math/bits.Add64"], apart := false, narrowed := true }
def ProbeMovesUptoSaid : Prop := probeMovesUptoRow.holds Try.pinned (OpenSpec.upto probeMovesSpec)

/-- 'splittallylaw19.ProbeDoubles', WHERE WHAT IT READS IS OF BULK AT MOST 1048576: true; the input reads as it did. -/
def probeDoublesUptoRow : OpenClaim := { program := "ytehmeopbenmeiaa", sum := "8199d2575f00e906ab0a6f764e906b9891dece193f41e55242b5e3f46416ba51", func := "splittally/splittallylaw19.ProbeDoubles", spec := "probeDoubles", inPlace := ["math/bits.Add64"], apart := false, narrowed := true }
def ProbeDoublesUptoSaid : Prop := probeDoublesUptoRow.holds Try.pinned (OpenSpec.upto probeDoublesSpec)

/-- 'splittallylaw19.ProbeWaits', WHERE WHAT IT READS IS OF BULK AT MOST 1048576: true; the input reads as it did. -/
def probeWaitsUptoRow : OpenClaim := { program := "ytehmeopbenmeiaa", sum := "8199d2575f00e906ab0a6f764e906b9891dece193f41e55242b5e3f46416ba51", func := "splittally/splittallylaw19.ProbeWaits", spec := "probeWaits", inPlace := ["math/bits.Add64"], apart := false, narrowed := true }
def ProbeWaitsUptoSaid : Prop := probeWaitsUptoRow.holds Try.pinned (OpenSpec.upto probeWaitsSpec)

end Rows
end Go.Proofs.Ytehmeopbenmeiaa
