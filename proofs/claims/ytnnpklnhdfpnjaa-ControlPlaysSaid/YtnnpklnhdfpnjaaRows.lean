/-
  No cell of these rows narrows 'for every input' (looked for: loops, veiled, ifaces, maps, wideKeys, modest, calm, conditions, laid).
  DERIVED. THE GIVEN ROWS OF THIS SEAT. 4 by the template 'for every input the law returns true; each argument reads behind the call as it read before'; 0 by the template 'total and deterministic' (their statements: YtnnpklnhdfpnjaaTotals.lean).
  GIVEN WITH THE SEED: the statements are not yours to turn. If you find one false, say at which input.
  Laid BY PROGRAM, IN A SANDBOX (cutbox-rows.mjs): the forced cells as the released guide's own fill.sh prints them over the translation d4396845971dd35b… (all of the seat's roots in one cut). By AI agents, Wed Nov 11 2026. No macro, syntax, notation, axiom, sorry.
-/
import Derived.Test.YtnnpklnhdfpnjaaChecked
import GoSem.Claim
import GoSem.ClaimJoined
import GoSem.ClaimMapViews
import Derived.JoinedTies
import Derived.KernelRfl
namespace Go.Proofs.Ytnnpklnhdfpnjaa
/- THE CELL 'sum', in the pinned program and in every row, IS THE sha256 OF THE DUMP (.gsa) THAT YtnnpklnhdfpnjaaProg.lean LOADS. Nothing in Lean hashes anything: it is a label: what it is worth is what the hold of that sum in a sandbox is worth. -/
noncomputable def Try.pinned : Pinned := { name := "ytnnpklnhdfpnjaa", sum := "d4396845971dd35bc9bf874a930044ad0b505eab9bcb8ba8970a9d5096d0fe44", checked := Try.checked }
namespace Rows
def none {H : Type} : Left H := { results := [], args := [] }

/-- 'splittallylaw23.ControlAcks': WHATEVER THE INPUT: true; the input reads as it did. -/
def controlAcksSpec : ChangeSpec := { name := "controlAcks", fn := fun _ => fun
  | [d1, d2, d3, d4, d5, d6] => { results := [.lit (.bool true)], args := [d1, d2, d3, d4, d5, d6] }
  | _ => none }
def controlAcksRow : OpenClaim := { program := "ytnnpklnhdfpnjaa", sum := "d4396845971dd35bc9bf874a930044ad0b505eab9bcb8ba8970a9d5096d0fe44", func := "splittally/splittallylaw23.ControlAcks", spec := "controlAcks", inPlace := ["math/bits.Add64"], named := ["math/bits.divideError", "math/bits.overflowError"], apart := false }
def ControlAcksSaid : Prop := controlAcksRow.holds Try.pinned (OpenSpec.ofChange controlAcksSpec)

/-- ITS FALSE NEIGHBOUR: 'it returns false'. Refute it at one input. -/
def controlAcksWrong : ChangeSpec := { name := "controlAcks", fn := fun _ => fun
  | [d1, d2, d3, d4, d5, d6] => { results := [.lit (.bool false)], args := [d1, d2, d3, d4, d5, d6] }
  | _ => none }
def ControlAcksWrongFalsely : Prop := controlAcksRow.holds Try.pinned (OpenSpec.ofChange controlAcksWrong)

/-- 'splittallylaw23.ControlCuts': WHATEVER THE INPUT: true; the input reads as it did. -/
def controlCutsSpec : ChangeSpec := { name := "controlCuts", fn := fun _ => fun
  | [d1, d2, d3, d4, d5] => { results := [.lit (.bool true)], args := [d1, d2, d3, d4, d5] }
  | _ => none }
def controlCutsRow : OpenClaim := { program := "ytnnpklnhdfpnjaa", sum := "d4396845971dd35bc9bf874a930044ad0b505eab9bcb8ba8970a9d5096d0fe44", func := "splittally/splittallylaw23.ControlCuts", spec := "controlCuts", named := ["math/bits.divideError", "math/bits.overflowError"], apart := false }
def ControlCutsSaid : Prop := controlCutsRow.holds Try.pinned (OpenSpec.ofChange controlCutsSpec)

/-- ITS FALSE NEIGHBOUR: 'it returns false'. Refute it at one input. -/
def controlCutsWrong : ChangeSpec := { name := "controlCuts", fn := fun _ => fun
  | [d1, d2, d3, d4, d5] => { results := [.lit (.bool false)], args := [d1, d2, d3, d4, d5] }
  | _ => none }
def ControlCutsWrongFalsely : Prop := controlCutsRow.holds Try.pinned (OpenSpec.ofChange controlCutsWrong)

/-- 'splittallylaw23.ControlPlays': WHATEVER THE INPUT: true; the input reads as it did. -/
def controlPlaysSpec : ChangeSpec := { name := "controlPlays", fn := fun _ => fun
  | [d1, d2] => { results := [.lit (.bool true)], args := [d1, d2] }
  | _ => none }
def controlPlaysRow : OpenClaim := { program := "ytnnpklnhdfpnjaa", sum := "d4396845971dd35bc9bf874a930044ad0b505eab9bcb8ba8970a9d5096d0fe44", func := "splittally/splittallylaw23.ControlPlays", spec := "controlPlays", inPlace := ["math/bits.Add64"], named := ["math/bits.divideError", "math/bits.overflowError"], apart := false }
def ControlPlaysSaid : Prop := controlPlaysRow.holds Try.pinned (OpenSpec.ofChange controlPlaysSpec)

/-- ITS FALSE NEIGHBOUR: 'it returns false'. Refute it at one input. -/
def controlPlaysWrong : ChangeSpec := { name := "controlPlays", fn := fun _ => fun
  | [d1, d2] => { results := [.lit (.bool false)], args := [d1, d2] }
  | _ => none }
def ControlPlaysWrongFalsely : Prop := controlPlaysRow.holds Try.pinned (OpenSpec.ofChange controlPlaysWrong)

/-- 'splittallylaw23.ControlOnce': WHATEVER THE INPUT: true; the input reads as it did. -/
def controlOnceSpec : ChangeSpec := { name := "controlOnce", fn := fun _ => fun
  | [d1, d2, d3, d4, d5] => { results := [.lit (.bool true)], args := [d1, d2, d3, d4, d5] }
  | _ => none }
def controlOnceRow : OpenClaim := { program := "ytnnpklnhdfpnjaa", sum := "d4396845971dd35bc9bf874a930044ad0b505eab9bcb8ba8970a9d5096d0fe44", func := "splittally/splittallylaw23.ControlOnce", spec := "controlOnce", named := ["math/bits.divideError", "math/bits.overflowError"], apart := false }
def ControlOnceSaid : Prop := controlOnceRow.holds Try.pinned (OpenSpec.ofChange controlOnceSpec)

/-- ITS FALSE NEIGHBOUR: 'it returns false'. Refute it at one input. -/
def controlOnceWrong : ChangeSpec := { name := "controlOnce", fn := fun _ => fun
  | [d1, d2, d3, d4, d5] => { results := [.lit (.bool false)], args := [d1, d2, d3, d4, d5] }
  | _ => none }
def ControlOnceWrongFalsely : Prop := controlOnceRow.holds Try.pinned (OpenSpec.ofChange controlOnceWrong)

/- THE SECOND FORM. 'bulk': how many values and letters a reading holds, each counted each time it is reached (what is shared counts as often as it is met; a slice's spare places count too). A statement '..UptoSaid' is the law's where the arguments, and the package variables that the reading takes, are together of bulk at most 1048576: NARROWER than '..Said'. Prove '..Said' where nothing that the law and all that it calls make is longer than what came in: it says more and counts as full. Else prove '..UptoSaid'. A law counts once. -/
mutual
def uptoBulk {H : Type} : DataW H → Nat
  | .lit (.string bytes) => bytes.length + 1
  | .lit _ => 1
  | .nil => 1
  | .ptr d => uptoBulk d + 1
  | .slice elems spare => uptoBulkAll elems + uptoBulkAll spare + 1
  | .agg parts => uptoBulkAll parts + 1
  | .iface _ d => uptoBulk d + 1
  | .map entries => uptoBulkEntries entries + 1
  | .held _ => 1
def uptoBulkAll {H : Type} : List (DataW H) → Nat
  | [] => 0
  | d :: r => uptoBulk d + uptoBulkAll r
def uptoBulkEntries {H : Type} : List (Lit × DataW H) → Nat
  | [] => 0
  | x :: r => uptoBulkEntry x + uptoBulkEntries r
def uptoBulkEntry {H : Type} : Lit × DataW H → Nat
  | (.string bytes, d) => bytes.length + uptoBulk d + 1
  | (_, d) => uptoBulk d + 1
 end
def uptoSmall : (H : Type) → List (DataW H) → Bool := fun _ ds => decide (uptoBulkAll ds ≤ 1048576)
def OpenSpec.upto (s : _root_.Go.ChangeSpec) : _root_.Go.OpenSpec := { _root_.Go.OpenSpec.ofChange s with cond := some uptoSmall }

/-- 'splittallylaw23.ControlAcks', WHERE WHAT IT READS IS OF BULK AT MOST 1048576: true; the input reads as it did. -/
def controlAcksUptoRow : OpenClaim := { program := "ytnnpklnhdfpnjaa", sum := "d4396845971dd35bc9bf874a930044ad0b505eab9bcb8ba8970a9d5096d0fe44", func := "splittally/splittallylaw23.ControlAcks", spec := "controlAcks", inPlace := ["math/bits.Add64"], named := ["math/bits.divideError", "math/bits.overflowError"], apart := false, narrowed := true }
def ControlAcksUptoSaid : Prop := controlAcksUptoRow.holds Try.pinned (OpenSpec.upto controlAcksSpec)

/-- 'splittallylaw23.ControlCuts', WHERE WHAT IT READS IS OF BULK AT MOST 1048576: true; the input reads as it did. -/
def controlCutsUptoRow : OpenClaim := { program := "ytnnpklnhdfpnjaa", sum := "d4396845971dd35bc9bf874a930044ad0b505eab9bcb8ba8970a9d5096d0fe44", func := "splittally/splittallylaw23.ControlCuts", spec := "controlCuts", named := ["math/bits.divideError", "math/bits.overflowError"], apart := false, narrowed := true }
def ControlCutsUptoSaid : Prop := controlCutsUptoRow.holds Try.pinned (OpenSpec.upto controlCutsSpec)

/-- 'splittallylaw23.ControlPlays', WHERE WHAT IT READS IS OF BULK AT MOST 1048576: true; the input reads as it did. -/
def controlPlaysUptoRow : OpenClaim := { program := "ytnnpklnhdfpnjaa", sum := "d4396845971dd35bc9bf874a930044ad0b505eab9bcb8ba8970a9d5096d0fe44", func := "splittally/splittallylaw23.ControlPlays", spec := "controlPlays", inPlace := ["math/bits.Add64"], named := ["math/bits.divideError", "math/bits.overflowError"], apart := false, narrowed := true }
def ControlPlaysUptoSaid : Prop := controlPlaysUptoRow.holds Try.pinned (OpenSpec.upto controlPlaysSpec)

/-- 'splittallylaw23.ControlOnce', WHERE WHAT IT READS IS OF BULK AT MOST 1048576: true; the input reads as it did. -/
def controlOnceUptoRow : OpenClaim := { program := "ytnnpklnhdfpnjaa", sum := "d4396845971dd35bc9bf874a930044ad0b505eab9bcb8ba8970a9d5096d0fe44", func := "splittally/splittallylaw23.ControlOnce", spec := "controlOnce", named := ["math/bits.divideError", "math/bits.overflowError"], apart := false, narrowed := true }
def ControlOnceUptoSaid : Prop := controlOnceUptoRow.holds Try.pinned (OpenSpec.upto controlOnceSpec)

end Rows
end Go.Proofs.Ytnnpklnhdfpnjaa
