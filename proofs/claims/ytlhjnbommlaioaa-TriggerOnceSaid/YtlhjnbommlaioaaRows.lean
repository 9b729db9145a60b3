/-
  No cell of these rows narrows 'for every input' (looked for: loops, veiled, ifaces, maps, wideKeys, modest, calm, conditions, laid).
  DERIVED. THE GIVEN ROWS OF THIS SEAT. 4 by the template 'for every input the law returns true; each argument reads behind the call as it read before'; 0 by the template 'total and deterministic' (their statements: YtlhjnbommlaioaaTotals.lean).
  GIVEN WITH THE SEED: the statements are not yours to turn. If you find one false, say at which input.
  Laid BY PROGRAM, IN A SANDBOX (cutbox-rows.mjs): the forced cells as the released guide's own fill.sh prints them over the translation ead50fb9e181db2d… (all of the seat's roots in one cut). By AI agents, Wed Nov 11 2026. No macro, syntax, notation, axiom, sorry.
-/
import Derived.Test.YtlhjnbommlaioaaChecked
import GoSem.Claim
import GoSem.ClaimJoined
import GoSem.ClaimMapViews
import Derived.JoinedTies
import Derived.KernelRfl
namespace Go.Proofs.Ytlhjnbommlaioaa
/- THE CELL 'sum', in the pinned program and in every row, IS THE sha256 OF THE DUMP (.gsa) THAT YtlhjnbommlaioaaProg.lean LOADS. Nothing in Lean hashes anything: it is a label: what it is worth is what the hold of that sum in a sandbox is worth. -/
noncomputable def Try.pinned : Pinned := { name := "ytlhjnbommlaioaa", sum := "ead50fb9e181db2d09e8d0911664d24cd655b08aeb7a899042d57dbfeb9817cd", checked := Try.checked }
namespace Rows
def none {H : Type} : Left H := { results := [], args := [] }

/-- 'splittallylaw13.TriggerLooks': WHATEVER THE INPUT: true; the input reads as it did. -/
def triggerLooksSpec : ChangeSpec := { name := "triggerLooks", fn := fun _ => fun
  | [d1, d2, d3] => { results := [.lit (.bool true)], args := [d1, d2, d3] }
  | _ => none }
def triggerLooksRow : OpenClaim := { program := "ytlhjnbommlaioaa", sum := "ead50fb9e181db2d09e8d0911664d24cd655b08aeb7a899042d57dbfeb9817cd", func := "splittally/splittallylaw13.TriggerLooks", spec := "triggerLooks", inPlace := ["math/bits.Add64"], apart := false }
def TriggerLooksSaid : Prop := triggerLooksRow.holds Try.pinned (OpenSpec.ofChange triggerLooksSpec)

/-- ITS FALSE NEIGHBOUR: 'it returns false'. Refute it at one input. -/
def triggerLooksWrong : ChangeSpec := { name := "triggerLooks", fn := fun _ => fun
  | [d1, d2, d3] => { results := [.lit (.bool false)], args := [d1, d2, d3] }
  | _ => none }
def TriggerLooksWrongFalsely : Prop := triggerLooksRow.holds Try.pinned (OpenSpec.ofChange triggerLooksWrong)

/-- 'splittallylaw13.TriggerNear': WHATEVER THE INPUT: true; the input reads as it did. -/
def triggerNearSpec : ChangeSpec := { name := "triggerNear", fn := fun _ => fun
  | [d1, d2, d3, d4] => { results := [.lit (.bool true)], args := [d1, d2, d3, d4] }
  | _ => none }
def triggerNearRow : OpenClaim := { program := "ytlhjnbommlaioaa", sum := "ead50fb9e181db2d09e8d0911664d24cd655b08aeb7a899042d57dbfeb9817cd", func := "splittally/splittallylaw13.TriggerNear", spec := "triggerNear", inPlace := ["math/bits.Add64"], apart := false }
def TriggerNearSaid : Prop := triggerNearRow.holds Try.pinned (OpenSpec.ofChange triggerNearSpec)

/-- ITS FALSE NEIGHBOUR: 'it returns false'. Refute it at one input. -/
def triggerNearWrong : ChangeSpec := { name := "triggerNear", fn := fun _ => fun
  | [d1, d2, d3, d4] => { results := [.lit (.bool false)], args := [d1, d2, d3, d4] }
  | _ => none }
def TriggerNearWrongFalsely : Prop := triggerNearRow.holds Try.pinned (OpenSpec.ofChange triggerNearWrong)

/-- 'splittallylaw13.TriggerOnce': WHATEVER THE INPUT: true; the input reads as it did. -/
def triggerOnceSpec : ChangeSpec := { name := "triggerOnce", fn := fun _ => fun
  | [d1, d2, d3, d4] => { results := [.lit (.bool true)], args := [d1, d2, d3, d4] }
  | _ => none }
def triggerOnceRow : OpenClaim := { program := "ytlhjnbommlaioaa", sum := "ead50fb9e181db2d09e8d0911664d24cd655b08aeb7a899042d57dbfeb9817cd", func := "splittally/splittallylaw13.TriggerOnce", spec := "triggerOnce", inPlace := ["math/bits.Add64"], apart := false }
def TriggerOnceSaid : Prop := triggerOnceRow.holds Try.pinned (OpenSpec.ofChange triggerOnceSpec)

/-- ITS FALSE NEIGHBOUR: 'it returns false'. Refute it at one input. -/
def triggerOnceWrong : ChangeSpec := { name := "triggerOnce", fn := fun _ => fun
  | [d1, d2, d3, d4] => { results := [.lit (.bool false)], args := [d1, d2, d3, d4] }
  | _ => none }
def TriggerOnceWrongFalsely : Prop := triggerOnceRow.holds Try.pinned (OpenSpec.ofChange triggerOnceWrong)

/-- 'splittallylaw13.TriggerNone': WHATEVER THE INPUT: true; the input reads as it did. -/
def triggerNoneSpec : ChangeSpec := { name := "triggerNone", fn := fun _ => fun
  | [d1, d2, d3, d4] => { results := [.lit (.bool true)], args := [d1, d2, d3, d4] }
  | _ => none }
def triggerNoneRow : OpenClaim := { program := "ytlhjnbommlaioaa", sum := "ead50fb9e181db2d09e8d0911664d24cd655b08aeb7a899042d57dbfeb9817cd", func := "splittally/splittallylaw13.TriggerNone", spec := "triggerNone", inPlace := ["math/bits.Add64"], apart := false }
def TriggerNoneSaid : Prop := triggerNoneRow.holds Try.pinned (OpenSpec.ofChange triggerNoneSpec)

/-- ITS FALSE NEIGHBOUR: 'it returns false'. Refute it at one input. -/
def triggerNoneWrong : ChangeSpec := { name := "triggerNone", fn := fun _ => fun
  | [d1, d2, d3, d4] => { results := [.lit (.bool false)], args := [d1, d2, d3, d4] }
  | _ => none }
def TriggerNoneWrongFalsely : Prop := triggerNoneRow.holds Try.pinned (OpenSpec.ofChange triggerNoneWrong)

/- THE SECOND FORM. 'bulk': how many values and letters a reading holds, each counted each time it is reached (what is shared counts as often as it is met; a slice's spare places count too). A statement '..UptoSaid' is the law's where the arguments, and the package variables that the reading takes, are together of bulk at most 1048576: NARROWER than '..Said'. Prove '..Said' where nothing that the law and all that it calls make is longer than what came in: it says more and counts as full. Else prove '..UptoSaid'. A law counts once. -/
mutual
def uptoBulk {H : Type} : DataW H → Nat
  | .lit (.string bytes) => bytes.length + 1
  | .lit _ => 1
  | .nil => 1
  | .ptr d => uptoBulk d + 1
  | .slice elems spare => uptoBulkAll elems + uptoBulkAll spare + 1
  | .agg parts => uptoBulkAll parts + 1
  | .iface _ d => uptoBulk d + 1
  | .map entries => uptoBulkEntries entries + 1
  | .held _ => 1
def uptoBulkAll {H : Type} : List (DataW H) → Nat
  | [] => 0
  | d :: r => uptoBulk d + uptoBulkAll r
def uptoBulkEntries {H : Type} : List (Lit × DataW H) → Nat
  | [] => 0
  | x :: r => uptoBulkEntry x + uptoBulkEntries r
def uptoBulkEntry {H : Type} : Lit × DataW H → Nat
  | (.string bytes, d) => bytes.length + uptoBulk d + 1
  | (_, d) => uptoBulk d + 1
 end
def uptoSmall : (H : Type) → List (DataW H) → Bool := fun _ ds => decide (uptoBulkAll ds ≤ 1048576)
def OpenSpec.upto (s : _root_.Go.ChangeSpec) : _root_.Go.OpenSpec := { _root_.Go.OpenSpec.ofChange s with cond := some uptoSmall }

/-- 'splittallylaw13.TriggerLooks', WHERE WHAT IT READS IS OF BULK AT MOST 1048576: true; the input reads as it did. -/
def triggerLooksUptoRow : OpenClaim := { program := "ytlhjnbommlaioaa", sum := "ead50fb9e181db2d09e8d0911664d24cd655b08aeb7a899042d57dbfeb9817cd", func := "splittally/splittallylaw13.TriggerLooks", spec := "triggerLooks", inPlace := ["math/bits.Add64"], apart := false, narrowed := true }
def TriggerLooksUptoSaid : Prop := triggerLooksUptoRow.holds Try.pinned (OpenSpec.upto triggerLooksSpec)

/-- 'splittallylaw13.TriggerNear', WHERE WHAT IT READS IS OF BULK AT MOST 1048576: true; the input reads as it did. -/
def triggerNearUptoRow : OpenClaim := { program := "ytlhjnbommlaioaa", sum := "ead50fb9e181db2d09e8d0911664d24cd655b08aeb7a899042d57dbfeb9817cd", func := "splittally/splittallylaw13.TriggerNear", spec := "triggerNear", inPlace := ["math/bits.Add64"], apart := false, narrowed := true }
def TriggerNearUptoSaid : Prop := triggerNearUptoRow.holds Try.pinned (OpenSpec.upto triggerNearSpec)

/-- 'splittallylaw13.TriggerOnce', WHERE WHAT IT READS IS OF BULK AT MOST 1048576: true; the input reads as it did. -/
def triggerOnceUptoRow : OpenClaim := { program := "ytlhjnbommlaioaa", sum := "ead50fb9e181db2d09e8d0911664d24cd655b08aeb7a899042d57dbfeb9817cd", func := "splittally/splittallylaw13.TriggerOnce", spec := "triggerOnce", inPlace := ["math/bits.Add64"], apart := false, narrowed := true }
def TriggerOnceUptoSaid : Prop := triggerOnceUptoRow.holds Try.pinned (OpenSpec.upto triggerOnceSpec)

/-- 'splittallylaw13.TriggerNone', WHERE WHAT IT READS IS OF BULK AT MOST 1048576: true; the input reads as it did. -/
def triggerNoneUptoRow : OpenClaim := { program := "ytlhjnbommlaioaa", sum := "ead50fb9e181db2d09e8d0911664d24cd655b08aeb7a899042d57dbfeb9817cd", func := "splittally/splittallylaw13.TriggerNone", spec := "triggerNone", inPlace := ["math/bits.Add64"], apart := false, narrowed := true }
def TriggerNoneUptoSaid : Prop := triggerNoneUptoRow.holds Try.pinned (OpenSpec.upto triggerNoneSpec)

end Rows
end Go.Proofs.Ytlhjnbommlaioaa
