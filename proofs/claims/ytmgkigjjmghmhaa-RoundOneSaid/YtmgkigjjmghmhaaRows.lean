/-
  No cell of these rows narrows 'for every input' (looked for: loops, veiled, ifaces, maps, wideKeys, modest, calm, conditions, laid).
  DERIVED. THE GIVEN ROWS OF THIS SEAT. 3 by the template 'for every input the law returns true; each argument reads behind the call as it read before'; 0 by the template 'total and deterministic' (their statements: YtmgkigjjmghmhaaTotals.lean).
  GIVEN WITH THE SEED: the statements are not yours to turn. If you find one false, say at which input.
  Laid BY PROGRAM, IN A SANDBOX (cutbox-rows.mjs): the forced cells as the released guide's own fill.sh prints them over the translation 29965091cf2e793c… (all of the seat's roots in one cut). By AI agents, Wed Nov 11 2026. No macro, syntax, notation, axiom, sorry.
-/
import Derived.Test.YtmgkigjjmghmhaaChecked
import GoSem.Claim
import GoSem.ClaimJoined
import GoSem.ClaimMapViews
import Derived.JoinedTies
import Derived.KernelRfl
namespace Go.Proofs.Ytmgkigjjmghmhaa
/- THE CELL 'sum', in the pinned program and in every row, IS THE sha256 OF THE DUMP (.gsa) THAT YtmgkigjjmghmhaaProg.lean LOADS. Nothing in Lean hashes anything: it is a label: what it is worth is what the hold of that sum in a sandbox is worth. -/
noncomputable def Try.pinned : Pinned := { name := "ytmgkigjjmghmhaa", sum := "29965091cf2e793c929944ba1e61abcb9bd8673d6d94224e6dd016d0ea380b52", checked := Try.checked }
namespace Rows
def none {H : Type} : Left H := { results := [], args := [] }

/-- 'splittallylaw20.RoundBegins': WHATEVER THE INPUT: true; the input reads as it did. -/
def roundBeginsSpec : ChangeSpec := { name := "roundBegins", fn := fun _ => fun
  | [d1, d2, d3] => { results := [.lit (.bool true)], args := [d1, d2, d3] }
  | _ => none }
def roundBeginsRow : OpenClaim := { program := "ytmgkigjjmghmhaa", sum := "29965091cf2e793c929944ba1e61abcb9bd8673d6d94224e6dd016d0ea380b52", func := "splittally/splittallylaw20.RoundBegins", spec := "roundBegins", apart := false }
def RoundBeginsSaid : Prop := roundBeginsRow.holds Try.pinned (OpenSpec.ofChange roundBeginsSpec)

/-- ITS FALSE NEIGHBOUR: 'it returns false'. Refute it at one input. -/
def roundBeginsWrong : ChangeSpec := { name := "roundBegins", fn := fun _ => fun
  | [d1, d2, d3] => { results := [.lit (.bool false)], args := [d1, d2, d3] }
  | _ => none }
def RoundBeginsWrongFalsely : Prop := roundBeginsRow.holds Try.pinned (OpenSpec.ofChange roundBeginsWrong)

/-- 'splittallylaw20.RoundOne': WHATEVER THE INPUT: true; the input reads as it did. -/
def roundOneSpec : ChangeSpec := { name := "roundOne", fn := fun _ => fun
  | [d] => { results := [.lit (.bool true)], args := [d] }
  | _ => none }
def roundOneRow : OpenClaim := { program := "ytmgkigjjmghmhaa", sum := "29965091cf2e793c929944ba1e61abcb9bd8673d6d94224e6dd016d0ea380b52", func := "splittally/splittallylaw20.RoundOne", spec := "roundOne", apart := false }
def RoundOneSaid : Prop := roundOneRow.holds Try.pinned (OpenSpec.ofChange roundOneSpec)

/-- ITS FALSE NEIGHBOUR: 'it returns false'. Refute it at one input. -/
def roundOneWrong : ChangeSpec := { name := "roundOne", fn := fun _ => fun
  | [d] => { results := [.lit (.bool false)], args := [d] }
  | _ => none }
def RoundOneWrongFalsely : Prop := roundOneRow.holds Try.pinned (OpenSpec.ofChange roundOneWrong)

/-- 'splittallylaw20.RoundEnds': WHATEVER THE INPUT: true; the input reads as it did. -/
def roundEndsSpec : ChangeSpec := { name := "roundEnds", fn := fun _ => fun
  | [d1, d2, d3, d4] => { results := [.lit (.bool true)], args := [d1, d2, d3, d4] }
  | _ => none }
def roundEndsRow : OpenClaim := { program := "ytmgkigjjmghmhaa", sum := "29965091cf2e793c929944ba1e61abcb9bd8673d6d94224e6dd016d0ea380b52", func := "splittally/splittallylaw20.RoundEnds", spec := "roundEnds", apart := false }
def RoundEndsSaid : Prop := roundEndsRow.holds Try.pinned (OpenSpec.ofChange roundEndsSpec)

/-- ITS FALSE NEIGHBOUR: 'it returns false'. Refute it at one input. -/
def roundEndsWrong : ChangeSpec := { name := "roundEnds", fn := fun _ => fun
  | [d1, d2, d3, d4] => { results := [.lit (.bool false)], args := [d1, d2, d3, d4] }
  | _ => none }
def RoundEndsWrongFalsely : Prop := roundEndsRow.holds Try.pinned (OpenSpec.ofChange roundEndsWrong)

/- THE SECOND FORM. 'bulk': how many values and letters a reading holds, each counted each time it is reached (what is shared counts as often as it is met; a slice's spare places count too). A statement '..UptoSaid' is the law's where the arguments, and the package variables that the reading takes, are together of bulk at most 1048576: NARROWER than '..Said'. Prove '..Said' where nothing that the law and all that it calls make is longer than what came in: it says more and counts as full. Else prove '..UptoSaid'. A law counts once. -/
mutual
def uptoBulk {H : Type} : DataW H → Nat
  | .lit (.string bytes) => bytes.length + 1
  | .lit _ => 1
  | .nil => 1
  | .ptr d => uptoBulk d + 1
  | .slice elems spare => uptoBulkAll elems + uptoBulkAll spare + 1
  | .agg parts => uptoBulkAll parts + 1
  | .iface _ d => uptoBulk d + 1
  | .map entries => uptoBulkEntries entries + 1
  | .held _ => 1
def uptoBulkAll {H : Type} : List (DataW H) → Nat
  | [] => 0
  | d :: r => uptoBulk d + uptoBulkAll r
def uptoBulkEntries {H : Type} : List (Lit × DataW H) → Nat
  | [] => 0
  | x :: r => uptoBulkEntry x + uptoBulkEntries r
def uptoBulkEntry {H : Type} : Lit × DataW H → Nat
  | (.string bytes, d) => bytes.length + uptoBulk d + 1
  | (_, d) => uptoBulk d + 1
 end
def uptoSmall : (H : Type) → List (DataW H) → Bool := fun _ ds => decide (uptoBulkAll ds ≤ 1048576)
def OpenSpec.upto (s : _root_.Go.ChangeSpec) : _root_.Go.OpenSpec := { _root_.Go.OpenSpec.ofChange s with cond := some uptoSmall }

/-- 'splittallylaw20.RoundBegins', WHERE WHAT IT READS IS OF BULK AT MOST 1048576: true; the input reads as it did. -/
def roundBeginsUptoRow : OpenClaim := { program := "ytmgkigjjmghmhaa", sum := "29965091cf2e793c929944ba1e61abcb9bd8673d6d94224e6dd016d0ea380b52", func := "splittally/splittallylaw20.RoundBegins", spec := "roundBegins", apart := false, narrowed := true }
def RoundBeginsUptoSaid : Prop := roundBeginsUptoRow.holds Try.pinned (OpenSpec.upto roundBeginsSpec)

/-- 'splittallylaw20.RoundOne', WHERE WHAT IT READS IS OF BULK AT MOST 1048576: true; the input reads as it did. -/
def roundOneUptoRow : OpenClaim := { program := "ytmgkigjjmghmhaa", sum := "29965091cf2e793c929944ba1e61abcb9bd8673d6d94224e6dd016d0ea380b52", func := "splittally/splittallylaw20.RoundOne", spec := "roundOne", apart := false, narrowed := true }
def RoundOneUptoSaid : Prop := roundOneUptoRow.holds Try.pinned (OpenSpec.upto roundOneSpec)

/-- 'splittallylaw20.RoundEnds', WHERE WHAT IT READS IS OF BULK AT MOST 1048576: true; the input reads as it did. -/
def roundEndsUptoRow : OpenClaim := { program := "ytmgkigjjmghmhaa", sum := "29965091cf2e793c929944ba1e61abcb9bd8673d6d94224e6dd016d0ea380b52", func := "splittally/splittallylaw20.RoundEnds", spec := "roundEnds", apart := false, narrowed := true }
def RoundEndsUptoSaid : Prop := roundEndsUptoRow.holds Try.pinned (OpenSpec.upto roundEndsSpec)

end Rows
end Go.Proofs.Ytmgkigjjmghmhaa
