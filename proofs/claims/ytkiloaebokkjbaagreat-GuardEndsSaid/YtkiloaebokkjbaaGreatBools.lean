/-
  Slices of bools: rows in a world, one that came in. Nothing here names a program.
-/
import Derived.Test.YtkiloaebokkjbaaGreatRow
import Derived.Deep.Slices
set_option linter.unusedSimpArgs false
set_option linter.unusedVariables false
namespace Go.Proofs.YtkiloaebokkjbaaGreat.Base
set_option linter.unusedVariables false
open Go.ChangeShapes Go.WideShapes Go.RowKit

/-- From pointer a on these bools lie side by side. -/
def Bools (w : World) (a : Option Addr) (bs : List Bool) : Prop := Row w a (bs.map .bool)
theorem Bools.below {w w' : World} {a : Option Addr} {bs : List Bool} (h : Bools w a bs) (hb : Below w.heap.size w w') : Bools w' a bs := Row.below h hb
theorem Bools.drew {w : World} {a : Option Addr} {bs : List Bool} (h : Bools w a bs) : Bools w.drew a bs := h
theorem Bools.nil (w : World) (a : Option Addr) : Bools w a [] := Row.nil _ _
theorem Bools.at_ {w : World} {a : Option Addr} {bs : List Bool} (h : Bools w a bs) {i : Nat} (hi : i < bs.length) :
    ∃ b off, a = some ⟨b, off, none⟩ ∧ b < w.heap.size ∧ w.cell? ⟨b, off + i, none⟩ = some (.bool (bs.getD i false)) :=
  h i _ (by simp [List.getD, hi])
section
variable {H : Type} {enc : TypeId × Value → H} {P : Program} {w : World} {base : Nat} {held : Bool}
end
end Go.Proofs.YtkiloaebokkjbaaGreat.Base
