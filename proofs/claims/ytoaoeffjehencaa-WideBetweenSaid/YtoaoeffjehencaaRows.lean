/-
  No cell of these rows narrows 'for every input' (looked for: loops, veiled, ifaces, maps, wideKeys, modest, calm, conditions, laid).
  DERIVED. THE GIVEN ROWS OF THIS SEAT. 6 by the template 'for every input the law returns true; each argument reads behind the call as it read before'; 0 by the template 'total and deterministic' (their statements: YtoaoeffjehencaaTotals.lean).
  GIVEN WITH THE SEED: the statements are not yours to turn. If you find one false, say at which input.
  Laid BY PROGRAM, IN A SANDBOX (cutbox-rows.mjs): the forced cells as the released guide's own fill.sh prints them over the translation 2c08cb6f8c6bd0a8… (all of the seat's roots in one cut). By AI agents, Wed Nov 11 2026. No macro, syntax, notation, axiom, sorry.
-/
import Derived.Test.YtoaoeffjehencaaChecked
import GoSem.Claim
import GoSem.ClaimJoined
import GoSem.ClaimMapViews
import Derived.JoinedTies
import Derived.KernelRfl
namespace Go.Proofs.Ytoaoeffjehencaa
/- THE CELL 'sum', in the pinned program and in every row, IS THE sha256 OF THE DUMP (.gsa) THAT YtoaoeffjehencaaProg.lean LOADS. Nothing in Lean hashes anything: it is a label: what it is worth is what the hold of that sum in a sandbox is worth. -/
noncomputable def Try.pinned : Pinned := { name := "ytoaoeffjehencaa", sum := "2c08cb6f8c6bd0a833750146684128fc5108b42f07d74721ad0b32b93a507984", checked := Try.checked }
namespace Rows
def none {H : Type} : Left H := { results := [], args := [] }

/-- 'splittallylaw2.WideMultiplies': WHATEVER THE INPUT: true; the input reads as it did. -/
def wideMultipliesSpec : ChangeSpec := { name := "wideMultiplies", fn := fun _ => fun
  | [d1, d2] => { results := [.lit (.bool true)], args := [d1, d2] }
  | _ => none }
def wideMultipliesRow : OpenClaim := { program := "ytoaoeffjehencaa", sum := "2c08cb6f8c6bd0a833750146684128fc5108b42f07d74721ad0b32b93a507984", func := "splittally/splittallylaw2.WideMultiplies", spec := "wideMultiplies", named := ["math/bits.divideError", "math/bits.overflowError"], apart := false }
def WideMultipliesSaid : Prop := wideMultipliesRow.holds Try.pinned (OpenSpec.ofChange wideMultipliesSpec)

/-- ITS FALSE NEIGHBOUR: 'it returns false'. Refute it at one input. -/
def wideMultipliesWrong : ChangeSpec := { name := "wideMultiplies", fn := fun _ => fun
  | [d1, d2] => { results := [.lit (.bool false)], args := [d1, d2] }
  | _ => none }
def WideMultipliesWrongFalsely : Prop := wideMultipliesRow.holds Try.pinned (OpenSpec.ofChange wideMultipliesWrong)

/-- 'splittallylaw2.WideDivides': WHATEVER THE INPUT: true; the input reads as it did. -/
def wideDividesSpec : ChangeSpec := { name := "wideDivides", fn := fun _ => fun
  | [d1, d2, d3] => { results := [.lit (.bool true)], args := [d1, d2, d3] }
  | _ => none }
def wideDividesRow : OpenClaim := { program := "ytoaoeffjehencaa", sum := "2c08cb6f8c6bd0a833750146684128fc5108b42f07d74721ad0b32b93a507984", func := "splittally/splittallylaw2.WideDivides", spec := "wideDivides", named := ["math/bits.divideError", "math/bits.overflowError"], apart := false }
def WideDividesSaid : Prop := wideDividesRow.holds Try.pinned (OpenSpec.ofChange wideDividesSpec)

/-- ITS FALSE NEIGHBOUR: 'it returns false'. Refute it at one input. -/
def wideDividesWrong : ChangeSpec := { name := "wideDivides", fn := fun _ => fun
  | [d1, d2, d3] => { results := [.lit (.bool false)], args := [d1, d2, d3] }
  | _ => none }
def WideDividesWrongFalsely : Prop := wideDividesRow.holds Try.pinned (OpenSpec.ofChange wideDividesWrong)

/-- 'splittallylaw2.WideBack': WHATEVER THE INPUT: true; the input reads as it did. -/
def wideBackSpec : ChangeSpec := { name := "wideBack", fn := fun _ => fun
  | [d1, d2, d3] => { results := [.lit (.bool true)], args := [d1, d2, d3] }
  | _ => none }
def wideBackRow : OpenClaim := { program := "ytoaoeffjehencaa", sum := "2c08cb6f8c6bd0a833750146684128fc5108b42f07d74721ad0b32b93a507984", func := "splittally/splittallylaw2.WideBack", spec := "wideBack", named := ["math/bits.divideError", "math/bits.overflowError"], apart := false }
def WideBackSaid : Prop := wideBackRow.holds Try.pinned (OpenSpec.ofChange wideBackSpec)

/-- ITS FALSE NEIGHBOUR: 'it returns false'. Refute it at one input. -/
def wideBackWrong : ChangeSpec := { name := "wideBack", fn := fun _ => fun
  | [d1, d2, d3] => { results := [.lit (.bool false)], args := [d1, d2, d3] }
  | _ => none }
def WideBackWrongFalsely : Prop := wideBackRow.holds Try.pinned (OpenSpec.ofChange wideBackWrong)

/-- 'splittallylaw2.WideShares': WHATEVER THE INPUT: true; the input reads as it did. -/
def wideSharesSpec : ChangeSpec := { name := "wideShares", fn := fun _ => fun
  | [d1, d2, d3] => { results := [.lit (.bool true)], args := [d1, d2, d3] }
  | _ => none }
def wideSharesRow : OpenClaim := { program := "ytoaoeffjehencaa", sum := "2c08cb6f8c6bd0a833750146684128fc5108b42f07d74721ad0b32b93a507984", func := "splittally/splittallylaw2.WideShares", spec := "wideShares", named := ["math/bits.divideError", "math/bits.overflowError"], apart := false }
def WideSharesSaid : Prop := wideSharesRow.holds Try.pinned (OpenSpec.ofChange wideSharesSpec)

/-- ITS FALSE NEIGHBOUR: 'it returns false'. Refute it at one input. -/
def wideSharesWrong : ChangeSpec := { name := "wideShares", fn := fun _ => fun
  | [d1, d2, d3] => { results := [.lit (.bool false)], args := [d1, d2, d3] }
  | _ => none }
def WideSharesWrongFalsely : Prop := wideSharesRow.holds Try.pinned (OpenSpec.ofChange wideSharesWrong)

/-- 'splittallylaw2.WideRounds': WHATEVER THE INPUT: true; the input reads as it did. -/
def wideRoundsSpec : ChangeSpec := { name := "wideRounds", fn := fun _ => fun
  | [d1, d2, d3] => { results := [.lit (.bool true)], args := [d1, d2, d3] }
  | _ => none }
def wideRoundsRow : OpenClaim := { program := "ytoaoeffjehencaa", sum := "2c08cb6f8c6bd0a833750146684128fc5108b42f07d74721ad0b32b93a507984", func := "splittally/splittallylaw2.WideRounds", spec := "wideRounds", named := ["math/bits.divideError", "math/bits.overflowError"], apart := false }
def WideRoundsSaid : Prop := wideRoundsRow.holds Try.pinned (OpenSpec.ofChange wideRoundsSpec)

/-- ITS FALSE NEIGHBOUR: 'it returns false'. Refute it at one input. -/
def wideRoundsWrong : ChangeSpec := { name := "wideRounds", fn := fun _ => fun
  | [d1, d2, d3] => { results := [.lit (.bool false)], args := [d1, d2, d3] }
  | _ => none }
def WideRoundsWrongFalsely : Prop := wideRoundsRow.holds Try.pinned (OpenSpec.ofChange wideRoundsWrong)

/-- 'splittallylaw2.WideBetween': WHATEVER THE INPUT: true; the input reads as it did. -/
def wideBetweenSpec : ChangeSpec := { name := "wideBetween", fn := fun _ => fun
  | [d1, d2, d3, d4] => { results := [.lit (.bool true)], args := [d1, d2, d3, d4] }
  | _ => none }
def wideBetweenRow : OpenClaim := { program := "ytoaoeffjehencaa", sum := "2c08cb6f8c6bd0a833750146684128fc5108b42f07d74721ad0b32b93a507984", func := "splittally/splittallylaw2.WideBetween", spec := "wideBetween", named := ["math/bits.divideError", "math/bits.overflowError"], apart := false }
def WideBetweenSaid : Prop := wideBetweenRow.holds Try.pinned (OpenSpec.ofChange wideBetweenSpec)

/-- ITS FALSE NEIGHBOUR: 'it returns false'. Refute it at one input. -/
def wideBetweenWrong : ChangeSpec := { name := "wideBetween", fn := fun _ => fun
  | [d1, d2, d3, d4] => { results := [.lit (.bool false)], args := [d1, d2, d3, d4] }
  | _ => none }
def WideBetweenWrongFalsely : Prop := wideBetweenRow.holds Try.pinned (OpenSpec.ofChange wideBetweenWrong)

/- THE SECOND FORM. 'bulk': how many values and letters a reading holds, each counted each time it is reached (what is shared counts as often as it is met; a slice's spare places count too). A statement '..UptoSaid' is the law's where the arguments, and the package variables that the reading takes, are together of bulk at most 1048576: NARROWER than '..Said'. Prove '..Said' where nothing that the law and all that it calls make is longer than what came in: it says more and counts as full. Else prove '..UptoSaid'. A law counts once. -/
mutual
def uptoBulk {H : Type} : DataW H → Nat
  | .lit (.string bytes) => bytes.length + 1
  | .lit _ => 1
  | .nil => 1
  | .ptr d => uptoBulk d + 1
  | .slice elems spare => uptoBulkAll elems + uptoBulkAll spare + 1
  | .agg parts => uptoBulkAll parts + 1
  | .iface _ d => uptoBulk d + 1
  | .map entries => uptoBulkEntries entries + 1
  | .held _ => 1
def uptoBulkAll {H : Type} : List (DataW H) → Nat
  | [] => 0
  | d :: r => uptoBulk d + uptoBulkAll r
def uptoBulkEntries {H : Type} : List (Lit × DataW H) → Nat
  | [] => 0
  | x :: r => uptoBulkEntry x + uptoBulkEntries r
def uptoBulkEntry {H : Type} : Lit × DataW H → Nat
  | (.string bytes, d) => bytes.length + uptoBulk d + 1
  | (_, d) => uptoBulk d + 1
 end
def uptoSmall : (H : Type) → List (DataW H) → Bool := fun _ ds => decide (uptoBulkAll ds ≤ 1048576)
def OpenSpec.upto (s : _root_.Go.ChangeSpec) : _root_.Go.OpenSpec := { _root_.Go.OpenSpec.ofChange s with cond := some uptoSmall }

/-- 'splittallylaw2.WideMultiplies', WHERE WHAT IT READS IS OF BULK AT MOST 1048576: true; the input reads as it did. -/
def wideMultipliesUptoRow : OpenClaim := { program := "ytoaoeffjehencaa", sum := "2c08cb6f8c6bd0a833750146684128fc5108b42f07d74721ad0b32b93a507984", func := "splittally/splittallylaw2.WideMultiplies", spec := "wideMultiplies", named := ["math/bits.divideError", "math/bits.overflowError"], apart := false, narrowed := true }
def WideMultipliesUptoSaid : Prop := wideMultipliesUptoRow.holds Try.pinned (OpenSpec.upto wideMultipliesSpec)

/-- 'splittallylaw2.WideDivides', WHERE WHAT IT READS IS OF BULK AT MOST 1048576: true; the input reads as it did. -/
def wideDividesUptoRow : OpenClaim := { program := "ytoaoeffjehencaa", sum := "2c08cb6f8c6bd0a833750146684128fc5108b42f07d74721ad0b32b93a507984", func := "splittally/splittallylaw2.WideDivides", spec := "wideDivides", named := ["math/bits.divideError", "math/bits.overflowError"], apart := false, narrowed := true }
def WideDividesUptoSaid : Prop := wideDividesUptoRow.holds Try.pinned (OpenSpec.upto wideDividesSpec)

/-- 'splittallylaw2.WideBack', WHERE WHAT IT READS IS OF BULK AT MOST 1048576: true; the input reads as it did. -/
def wideBackUptoRow : OpenClaim := { program := "ytoaoeffjehencaa", sum := "2c08cb6f8c6bd0a833750146684128fc5108b42f07d74721ad0b32b93a507984", func := "splittally/splittallylaw2.WideBack", spec := "wideBack", named := ["math/bits.divideError", "math/bits.overflowError"], apart := false, narrowed := true }
def WideBackUptoSaid : Prop := wideBackUptoRow.holds Try.pinned (OpenSpec.upto wideBackSpec)

/-- 'splittallylaw2.WideShares', WHERE WHAT IT READS IS OF BULK AT MOST 1048576: true; the input reads as it did. -/
def wideSharesUptoRow : OpenClaim := { program := "ytoaoeffjehencaa", sum := "2c08cb6f8c6bd0a833750146684128fc5108b42f07d74721ad0b32b93a507984", func := "splittally/splittallylaw2.WideShares", spec := "wideShares", named := ["math/bits.divideError", "math/bits.overflowError"], apart := false, narrowed := true }
def WideSharesUptoSaid : Prop := wideSharesUptoRow.holds Try.pinned (OpenSpec.upto wideSharesSpec)

/-- 'splittallylaw2.WideRounds', WHERE WHAT IT READS IS OF BULK AT MOST 1048576: true; the input reads as it did. -/
def wideRoundsUptoRow : OpenClaim := { program := "ytoaoeffjehencaa", sum := "2c08cb6f8c6bd0a833750146684128fc5108b42f07d74721ad0b32b93a507984", func := "splittally/splittallylaw2.WideRounds", spec := "wideRounds", named := ["math/bits.divideError", "math/bits.overflowError"], apart := false, narrowed := true }
def WideRoundsUptoSaid : Prop := wideRoundsUptoRow.holds Try.pinned (OpenSpec.upto wideRoundsSpec)

/-- 'splittallylaw2.WideBetween', WHERE WHAT IT READS IS OF BULK AT MOST 1048576: true; the input reads as it did. -/
def wideBetweenUptoRow : OpenClaim := { program := "ytoaoeffjehencaa", sum := "2c08cb6f8c6bd0a833750146684128fc5108b42f07d74721ad0b32b93a507984", func := "splittally/splittallylaw2.WideBetween", spec := "wideBetween", named := ["math/bits.divideError", "math/bits.overflowError"], apart := false, narrowed := true }
def WideBetweenUptoSaid : Prop := wideBetweenUptoRow.holds Try.pinned (OpenSpec.upto wideBetweenSpec)

end Rows
end Go.Proofs.Ytoaoeffjehencaa
