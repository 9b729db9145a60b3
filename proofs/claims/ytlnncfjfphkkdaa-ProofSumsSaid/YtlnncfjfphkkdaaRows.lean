/-
  No cell of these rows narrows 'for every input' (looked for: loops, veiled, ifaces, maps, wideKeys, modest, calm, conditions, laid).
  DERIVED. THE GIVEN ROWS OF THIS SEAT. 5 by the template 'for every input the law returns true; each argument reads behind the call as it read before'; 0 by the template 'total and deterministic' (their statements: YtlnncfjfphkkdaaTotals.lean).
  GIVEN WITH THE SEED: the statements are not yours to turn. If you find one false, say at which input.
  Laid BY PROGRAM, IN A SANDBOX (cutbox-rows.mjs): the forced cells as the released guide's own fill.sh prints them over the translation 4e9bcea36b860530… (all of the seat's roots in one cut). By AI agents, Wed Nov 11 2026. No macro, syntax, notation, axiom, sorry.
-/
import Derived.Test.YtlnncfjfphkkdaaChecked
import GoSem.Claim
import GoSem.ClaimJoined
import GoSem.ClaimMapViews
import Derived.JoinedTies
import Derived.KernelRfl
namespace Go.Proofs.Ytlnncfjfphkkdaa
/- THE CELL 'sum', in the pinned program and in every row, IS THE sha256 OF THE DUMP (.gsa) THAT YtlnncfjfphkkdaaProg.lean LOADS. Nothing in Lean hashes anything: it is a label: what it is worth is what the hold of that sum in a sandbox is worth. -/
noncomputable def Try.pinned : Pinned := { name := "ytlnncfjfphkkdaa", sum := "4e9bcea36b8605300fd279195e20d78b7880458f278b3c0ea6ff0284cf8991a2", checked := Try.checked }
namespace Rows
def none {H : Type} : Left H := { results := [], args := [] }

/-- 'splittallylaw14.ProofSums': WHATEVER THE INPUT: true; the input reads as it did. -/
def proofSumsSpec : ChangeSpec := { name := "proofSums", fn := fun _ => fun
  | [d1, d2, d3, d4] => { results := [.lit (.bool true)], args := [d1, d2, d3, d4] }
  | _ => none }
def proofSumsRow : OpenClaim := { program := "ytlnncfjfphkkdaa", sum := "4e9bcea36b8605300fd279195e20d78b7880458f278b3c0ea6ff0284cf8991a2", func := "splittally/splittallylaw14.ProofSums", spec := "proofSums", inPlace := ["math/bits.Add64"], apart := false }
def ProofSumsSaid : Prop := proofSumsRow.holds Try.pinned (OpenSpec.ofChange proofSumsSpec)

/-- ITS FALSE NEIGHBOUR: 'it returns false'. Refute it at one input. -/
def proofSumsWrong : ChangeSpec := { name := "proofSums", fn := fun _ => fun
  | [d1, d2, d3, d4] => { results := [.lit (.bool false)], args := [d1, d2, d3, d4] }
  | _ => none }
def ProofSumsWrongFalsely : Prop := proofSumsRow.holds Try.pinned (OpenSpec.ofChange proofSumsWrong)

/-- 'splittallylaw14.ProofChecks': WHATEVER THE INPUT: true; the input reads as it did. -/
def proofChecksSpec : ChangeSpec := { name := "proofChecks", fn := fun _ => fun
  | [d1, d2, d3, d4, d5] => { results := [.lit (.bool true)], args := [d1, d2, d3, d4, d5] }
  | _ => none }
def proofChecksRow : OpenClaim := { program := "ytlnncfjfphkkdaa", sum := "4e9bcea36b8605300fd279195e20d78b7880458f278b3c0ea6ff0284cf8991a2", func := "splittally/splittallylaw14.ProofChecks", spec := "proofChecks", inPlace := ["math/bits.Add64"], apart := false }
def ProofChecksSaid : Prop := proofChecksRow.holds Try.pinned (OpenSpec.ofChange proofChecksSpec)

/-- ITS FALSE NEIGHBOUR: 'it returns false'. Refute it at one input. -/
def proofChecksWrong : ChangeSpec := { name := "proofChecks", fn := fun _ => fun
  | [d1, d2, d3, d4, d5] => { results := [.lit (.bool false)], args := [d1, d2, d3, d4, d5] }
  | _ => none }
def ProofChecksWrongFalsely : Prop := proofChecksRow.holds Try.pinned (OpenSpec.ofChange proofChecksWrong)

/-- 'splittallylaw14.ProofHolds': WHATEVER THE INPUT: true; the input reads as it did. -/
def proofHoldsSpec : ChangeSpec := { name := "proofHolds", fn := fun _ => fun
  | [d1, d2, d3, d4, d5] => { results := [.lit (.bool true)], args := [d1, d2, d3, d4, d5] }
  | _ => none }
def proofHoldsRow : OpenClaim := { program := "ytlnncfjfphkkdaa", sum := "4e9bcea36b8605300fd279195e20d78b7880458f278b3c0ea6ff0284cf8991a2", func := "splittally/splittallylaw14.ProofHolds", spec := "proofHolds", inPlace := ["math/bits.Add64"], apart := false }
def ProofHoldsSaid : Prop := proofHoldsRow.holds Try.pinned (OpenSpec.ofChange proofHoldsSpec)

/-- ITS FALSE NEIGHBOUR: 'it returns false'. Refute it at one input. -/
def proofHoldsWrong : ChangeSpec := { name := "proofHolds", fn := fun _ => fun
  | [d1, d2, d3, d4, d5] => { results := [.lit (.bool false)], args := [d1, d2, d3, d4, d5] }
  | _ => none }
def ProofHoldsWrongFalsely : Prop := proofHoldsRow.holds Try.pinned (OpenSpec.ofChange proofHoldsWrong)

/-- 'splittallylaw14.ProofJoins': WHATEVER THE INPUT: true; the input reads as it did. -/
def proofJoinsSpec : ChangeSpec := { name := "proofJoins", fn := fun _ => fun
  | [d1, d2, d3, d4, d5] => { results := [.lit (.bool true)], args := [d1, d2, d3, d4, d5] }
  | _ => none }
def proofJoinsRow : OpenClaim := { program := "ytlnncfjfphkkdaa", sum := "4e9bcea36b8605300fd279195e20d78b7880458f278b3c0ea6ff0284cf8991a2", func := "splittally/splittallylaw14.ProofJoins", spec := "proofJoins", inPlace := ["math/bits.Add64"], apart := false }
def ProofJoinsSaid : Prop := proofJoinsRow.holds Try.pinned (OpenSpec.ofChange proofJoinsSpec)

/-- ITS FALSE NEIGHBOUR: 'it returns false'. Refute it at one input. -/
def proofJoinsWrong : ChangeSpec := { name := "proofJoins", fn := fun _ => fun
  | [d1, d2, d3, d4, d5] => { results := [.lit (.bool false)], args := [d1, d2, d3, d4, d5] }
  | _ => none }
def ProofJoinsWrongFalsely : Prop := proofJoinsRow.holds Try.pinned (OpenSpec.ofChange proofJoinsWrong)

/-- 'splittallylaw14.ProofTraps': WHATEVER THE INPUT: true; the input reads as it did. -/
def proofTrapsSpec : ChangeSpec := { name := "proofTraps", fn := fun _ => fun
  | [d1, d2, d3, d4, d5] => { results := [.lit (.bool true)], args := [d1, d2, d3, d4, d5] }
  | _ => none }
def proofTrapsRow : OpenClaim := { program := "ytlnncfjfphkkdaa", sum := "4e9bcea36b8605300fd279195e20d78b7880458f278b3c0ea6ff0284cf8991a2", func := "splittally/splittallylaw14.ProofTraps", spec := "proofTraps", inPlace := ["math/bits.Add64"], apart := false }
def ProofTrapsSaid : Prop := proofTrapsRow.holds Try.pinned (OpenSpec.ofChange proofTrapsSpec)

/-- ITS FALSE NEIGHBOUR: 'it returns false'. Refute it at one input. -/
def proofTrapsWrong : ChangeSpec := { name := "proofTraps", fn := fun _ => fun
  | [d1, d2, d3, d4, d5] => { results := [.lit (.bool false)], args := [d1, d2, d3, d4, d5] }
  | _ => none }
def ProofTrapsWrongFalsely : Prop := proofTrapsRow.holds Try.pinned (OpenSpec.ofChange proofTrapsWrong)

/- THE SECOND FORM. 'bulk': how many values and letters a reading holds, each counted each time it is reached (what is shared counts as often as it is met; a slice's spare places count too). A statement '..UptoSaid' is the law's where the arguments, and the package variables that the reading takes, are together of bulk at most 1048576: NARROWER than '..Said'. Prove '..Said' where nothing that the law and all that it calls make is longer than what came in: it says more and counts as full. Else prove '..UptoSaid'. A law counts once. -/
mutual
def uptoBulk {H : Type} : DataW H → Nat
  | .lit (.string bytes) => bytes.length + 1
  | .lit _ => 1
  | .nil => 1
  | .ptr d => uptoBulk d + 1
  | .slice elems spare => uptoBulkAll elems + uptoBulkAll spare + 1
  | .agg parts => uptoBulkAll parts + 1
  | .iface _ d => uptoBulk d + 1
  | .map entries => uptoBulkEntries entries + 1
  | .held _ => 1
def uptoBulkAll {H : Type} : List (DataW H) → Nat
  | [] => 0
  | d :: r => uptoBulk d + uptoBulkAll r
def uptoBulkEntries {H : Type} : List (Lit × DataW H) → Nat
  | [] => 0
  | x :: r => uptoBulkEntry x + uptoBulkEntries r
def uptoBulkEntry {H : Type} : Lit × DataW H → Nat
  | (.string bytes, d) => bytes.length + uptoBulk d + 1
  | (_, d) => uptoBulk d + 1
 end
def uptoSmall : (H : Type) → List (DataW H) → Bool := fun _ ds => decide (uptoBulkAll ds ≤ 1048576)
def OpenSpec.upto (s : _root_.Go.ChangeSpec) : _root_.Go.OpenSpec := { _root_.Go.OpenSpec.ofChange s with cond := some uptoSmall }

/-- 'splittallylaw14.ProofSums', WHERE WHAT IT READS IS OF BULK AT MOST 1048576: true; the input reads as it did. -/
def proofSumsUptoRow : OpenClaim := { program := "ytlnncfjfphkkdaa", sum := "4e9bcea36b8605300fd279195e20d78b7880458f278b3c0ea6ff0284cf8991a2", func := "splittally/splittallylaw14.ProofSums", spec := "proofSums", inPlace := ["math/bits.Add64"], apart := false, narrowed := true }
def ProofSumsUptoSaid : Prop := proofSumsUptoRow.holds Try.pinned (OpenSpec.upto proofSumsSpec)

/-- 'splittallylaw14.ProofChecks', WHERE WHAT IT READS IS OF BULK AT MOST 1048576: true; the input reads as it did. -/
def proofChecksUptoRow : OpenClaim := { program := "ytlnncfjfphkkdaa", sum := "4e9bcea36b8605300fd279195e20d78b7880458f278b3c0ea6ff0284cf8991a2", func := "splittally/splittallylaw14.ProofChecks", spec := "proofChecks", inPlace := ["math/bits.Add64"], apart := false, narrowed := true }
def ProofChecksUptoSaid : Prop := proofChecksUptoRow.holds Try.pinned (OpenSpec.upto proofChecksSpec)

/-- 'splittallylaw14.ProofHolds', WHERE WHAT IT READS IS OF BULK AT MOST 1048576: true; the input reads as it did. -/
def proofHoldsUptoRow : OpenClaim := { program := "ytlnncfjfphkkdaa", sum := "4e9bcea36b8605300fd279195e20d78b7880458f278b3c0ea6ff0284cf8991a2", func := "splittally/splittallylaw14.ProofHolds", spec := "proofHolds", inPlace := ["math/bits.Add64"], apart := false, narrowed := true }
def ProofHoldsUptoSaid : Prop := proofHoldsUptoRow.holds Try.pinned (OpenSpec.upto proofHoldsSpec)

/-- 'splittallylaw14.ProofJoins', WHERE WHAT IT READS IS OF BULK AT MOST 1048576: true; the input reads as it did. -/
def proofJoinsUptoRow : OpenClaim := { program := "ytlnncfjfphkkdaa", sum := "4e9bcea36b8605300fd279195e20d78b7880458f278b3c0ea6ff0284cf8991a2", func := "splittally/splittallylaw14.ProofJoins", spec := "proofJoins", inPlace := ["math/bits.Add64"], apart := false, narrowed := true }
def ProofJoinsUptoSaid : Prop := proofJoinsUptoRow.holds Try.pinned (OpenSpec.upto proofJoinsSpec)

/-- 'splittallylaw14.ProofTraps', WHERE WHAT IT READS IS OF BULK AT MOST 1048576: true; the input reads as it did. -/
def proofTrapsUptoRow : OpenClaim := { program := "ytlnncfjfphkkdaa", sum := "4e9bcea36b8605300fd279195e20d78b7880458f278b3c0ea6ff0284cf8991a2", func := "splittally/splittallylaw14.ProofTraps", spec := "proofTraps", inPlace := ["math/bits.Add64"], apart := false, narrowed := true }
def ProofTrapsUptoSaid : Prop := proofTrapsUptoRow.holds Try.pinned (OpenSpec.upto proofTrapsSpec)

end Rows
end Go.Proofs.Ytlnncfjfphkkdaa
