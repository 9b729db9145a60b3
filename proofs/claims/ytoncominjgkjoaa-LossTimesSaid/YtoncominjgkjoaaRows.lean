/-
  No cell of these rows narrows 'for every input' (looked for: loops, veiled, ifaces, maps, wideKeys, modest, calm, conditions, laid).
  DERIVED. THE GIVEN ROWS OF THIS SEAT. 4 by the template 'for every input the law returns true; each argument reads behind the call as it read before'; 0 by the template 'total and deterministic' (their statements: YtoncominjgkjoaaTotals.lean).
  GIVEN WITH THE SEED: the statements are not yours to turn. If you find one false, say at which input.
  Laid BY PROGRAM, IN A SANDBOX (cutbox-rows.mjs): the forced cells as the released guide's own fill.sh prints them over the translation f631b7175b6a14fe… (all of the seat's roots in one cut). By AI agents, Wed Nov 11 2026. No macro, syntax, notation, axiom, sorry.
-/
import Derived.Test.YtoncominjgkjoaaChecked
import GoSem.Claim
import GoSem.ClaimJoined
import GoSem.ClaimMapViews
import Derived.JoinedTies
import Derived.KernelRfl
namespace Go.Proofs.Ytoncominjgkjoaa
/- THE CELL 'sum', in the pinned program and in every row, IS THE sha256 OF THE DUMP (.gsa) THAT YtoncominjgkjoaaProg.lean LOADS. Nothing in Lean hashes anything: it is a label: what it is worth is what the hold of that sum in a sandbox is worth. -/
noncomputable def Try.pinned : Pinned := { name := "ytoncominjgkjoaa", sum := "f631b7175b6a14fe2aae996f9193111f36dc7bddb88e45bdb0b21f0ae6377bc8", checked := Try.checked }
namespace Rows
def none {H : Type} : Left H := { results := [], args := [] }

/-- 'splittallylaw18.LossFinds': WHATEVER THE INPUT: true; the input reads as it did. -/
def lossFindsSpec : ChangeSpec := { name := "lossFinds", fn := fun _ => fun
  | [d1, d2, d3, d4, d5, d6] => { results := [.lit (.bool true)], args := [d1, d2, d3, d4, d5, d6] }
  | _ => none }
def lossFindsRow : OpenClaim := { program := "ytoncominjgkjoaa", sum := "f631b7175b6a14fe2aae996f9193111f36dc7bddb88e45bdb0b21f0ae6377bc8", func := "splittally/splittallylaw18.LossFinds", spec := "lossFinds", inPlace := ["math/bits.Add64"], apart := false }
def LossFindsSaid : Prop := lossFindsRow.holds Try.pinned (OpenSpec.ofChange lossFindsSpec)

/-- ITS FALSE NEIGHBOUR: 'it returns false'. Refute it at one input. -/
def lossFindsWrong : ChangeSpec := { name := "lossFinds", fn := fun _ => fun
  | [d1, d2, d3, d4, d5, d6] => { results := [.lit (.bool false)], args := [d1, d2, d3, d4, d5, d6] }
  | _ => none }
def LossFindsWrongFalsely : Prop := lossFindsRow.holds Try.pinned (OpenSpec.ofChange lossFindsWrong)

/-- 'splittallylaw18.LossTimes': WHATEVER THE INPUT: true; the input reads as it did. -/
def lossTimesSpec : ChangeSpec := { name := "lossTimes", fn := fun _ => fun
  | [d1, d2, d3, d4, d5] => { results := [.lit (.bool true)], args := [d1, d2, d3, d4, d5] }
  | _ => none }
def lossTimesRow : OpenClaim := { program := "ytoncominjgkjoaa", sum := "f631b7175b6a14fe2aae996f9193111f36dc7bddb88e45bdb0b21f0ae6377bc8", func := "splittally/splittallylaw18.LossTimes", spec := "lossTimes", inPlace := ["math/bits.Add64"], apart := false }
def LossTimesSaid : Prop := lossTimesRow.holds Try.pinned (OpenSpec.ofChange lossTimesSpec)

/-- ITS FALSE NEIGHBOUR: 'it returns false'. Refute it at one input. -/
def lossTimesWrong : ChangeSpec := { name := "lossTimes", fn := fun _ => fun
  | [d1, d2, d3, d4, d5] => { results := [.lit (.bool false)], args := [d1, d2, d3, d4, d5] }
  | _ => none }
def LossTimesWrongFalsely : Prop := lossTimesRow.holds Try.pinned (OpenSpec.ofChange lossTimesWrong)

/-- 'splittallylaw18.LossGrows': WHATEVER THE INPUT: true; the input reads as it did. -/
def lossGrowsSpec : ChangeSpec := { name := "lossGrows", fn := fun _ => fun
  | [d1, d2, d3, d4, d5, d6, d7] => { results := [.lit (.bool true)], args := [d1, d2, d3, d4, d5, d6, d7] }
  | _ => none }
def lossGrowsRow : OpenClaim := { program := "ytoncominjgkjoaa", sum := "f631b7175b6a14fe2aae996f9193111f36dc7bddb88e45bdb0b21f0ae6377bc8", func := "splittally/splittallylaw18.LossGrows", spec := "lossGrows", inPlace := ["math/bits.Add64"], apart := false }
def LossGrowsSaid : Prop := lossGrowsRow.holds Try.pinned (OpenSpec.ofChange lossGrowsSpec)

/-- ITS FALSE NEIGHBOUR: 'it returns false'. Refute it at one input. -/
def lossGrowsWrong : ChangeSpec := { name := "lossGrows", fn := fun _ => fun
  | [d1, d2, d3, d4, d5, d6, d7] => { results := [.lit (.bool false)], args := [d1, d2, d3, d4, d5, d6, d7] }
  | _ => none }
def LossGrowsWrongFalsely : Prop := lossGrowsRow.holds Try.pinned (OpenSpec.ofChange lossGrowsWrong)

/-- 'splittallylaw18.LossFlies': WHATEVER THE INPUT: true; the input reads as it did. -/
def lossFliesSpec : ChangeSpec := { name := "lossFlies", fn := fun _ => fun
  | [d1, d2, d3, d4, d5] => { results := [.lit (.bool true)], args := [d1, d2, d3, d4, d5] }
  | _ => none }
def lossFliesRow : OpenClaim := { program := "ytoncominjgkjoaa", sum := "f631b7175b6a14fe2aae996f9193111f36dc7bddb88e45bdb0b21f0ae6377bc8", func := "splittally/splittallylaw18.LossFlies", spec := "lossFlies", inPlace := ["math/bits.Add64"], apart := false }
def LossFliesSaid : Prop := lossFliesRow.holds Try.pinned (OpenSpec.ofChange lossFliesSpec)

/-- ITS FALSE NEIGHBOUR: 'it returns false'. Refute it at one input. -/
def lossFliesWrong : ChangeSpec := { name := "lossFlies", fn := fun _ => fun
  | [d1, d2, d3, d4, d5] => { results := [.lit (.bool false)], args := [d1, d2, d3, d4, d5] }
  | _ => none }
def LossFliesWrongFalsely : Prop := lossFliesRow.holds Try.pinned (OpenSpec.ofChange lossFliesWrong)

/- THE SECOND FORM. 'bulk': how many values and letters a reading holds, each counted each time it is reached (what is shared counts as often as it is met; a slice's spare places count too). A statement '..UptoSaid' is the law's where the arguments, and the package variables that the reading takes, are together of bulk at most 1048576: NARROWER than '..Said'. Prove '..Said' where nothing that the law and all that it calls make is longer than what came in: it says more and counts as full. Else prove '..UptoSaid'. A law counts once. -/
mutual
def uptoBulk {H : Type} : DataW H → Nat
  | .lit (.string bytes) => bytes.length + 1
  | .lit _ => 1
  | .nil => 1
  | .ptr d => uptoBulk d + 1
  | .slice elems spare => uptoBulkAll elems + uptoBulkAll spare + 1
  | .agg parts => uptoBulkAll parts + 1
  | .iface _ d => uptoBulk d + 1
  | .map entries => uptoBulkEntries entries + 1
  | .held _ => 1
def uptoBulkAll {H : Type} : List (DataW H) → Nat
  | [] => 0
  | d :: r => uptoBulk d + uptoBulkAll r
def uptoBulkEntries {H : Type} : List (Lit × DataW H) → Nat
  | [] => 0
  | x :: r => uptoBulkEntry x + uptoBulkEntries r
def uptoBulkEntry {H : Type} : Lit × DataW H → Nat
  | (.string bytes, d) => bytes.length + uptoBulk d + 1
  | (_, d) => uptoBulk d + 1
 end
def uptoSmall : (H : Type) → List (DataW H) → Bool := fun _ ds => decide (uptoBulkAll ds ≤ 1048576)
def OpenSpec.upto (s : _root_.Go.ChangeSpec) : _root_.Go.OpenSpec := { _root_.Go.OpenSpec.ofChange s with cond := some uptoSmall }

/-- 'splittallylaw18.LossFinds', WHERE WHAT IT READS IS OF BULK AT MOST 1048576: true; the input reads as it did. -/
def lossFindsUptoRow : OpenClaim := { program := "ytoncominjgkjoaa", sum := "f631b7175b6a14fe2aae996f9193111f36dc7bddb88e45bdb0b21f0ae6377bc8", func := "splittally/splittallylaw18.LossFinds", spec := "lossFinds", inPlace := ["math/bits.Add64"], apart := false, narrowed := true }
def LossFindsUptoSaid : Prop := lossFindsUptoRow.holds Try.pinned (OpenSpec.upto lossFindsSpec)

/-- 'splittallylaw18.LossTimes', WHERE WHAT IT READS IS OF BULK AT MOST 1048576: true; the input reads as it did. -/
def lossTimesUptoRow : OpenClaim := { program := "ytoncominjgkjoaa", sum := "f631b7175b6a14fe2aae996f9193111f36dc7bddb88e45bdb0b21f0ae6377bc8", func := "splittally/splittallylaw18.LossTimes", spec := "lossTimes", inPlace := ["math/bits.Add64"], apart := false, narrowed := true }
def LossTimesUptoSaid : Prop := lossTimesUptoRow.holds Try.pinned (OpenSpec.upto lossTimesSpec)

/-- 'splittallylaw18.LossGrows', WHERE WHAT IT READS IS OF BULK AT MOST 1048576: true; the input reads as it did. -/
def lossGrowsUptoRow : OpenClaim := { program := "ytoncominjgkjoaa", sum := "f631b7175b6a14fe2aae996f9193111f36dc7bddb88e45bdb0b21f0ae6377bc8", func := "splittally/splittallylaw18.LossGrows", spec := "lossGrows", inPlace := ["math/bits.Add64"], apart := false, narrowed := true }
def LossGrowsUptoSaid : Prop := lossGrowsUptoRow.holds Try.pinned (OpenSpec.upto lossGrowsSpec)

/-- 'splittallylaw18.LossFlies', WHERE WHAT IT READS IS OF BULK AT MOST 1048576: true; the input reads as it did. -/
def lossFliesUptoRow : OpenClaim := { program := "ytoncominjgkjoaa", sum := "f631b7175b6a14fe2aae996f9193111f36dc7bddb88e45bdb0b21f0ae6377bc8", func := "splittally/splittallylaw18.LossFlies", spec := "lossFlies", inPlace := ["math/bits.Add64"], apart := false, narrowed := true }
def LossFliesUptoSaid : Prop := lossFliesUptoRow.holds Try.pinned (OpenSpec.upto lossFliesSpec)

end Rows
end Go.Proofs.Ytoncominjgkjoaa
