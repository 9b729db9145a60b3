/-
  Regions that draw their order and hold calls that make memory: one walk, in the text's order, over all worlds of a class. Nothing here names a program.
-/
import Derived.Test.YtbamdilihpnhjaaBase
import Derived.BigQuiet
import Derived.Deep.QuietTactic
set_option linter.unusedSimpArgs false
set_option linter.unusedVariables false
namespace Go.Proofs.Ytbamdilihpnhjaa.Base
set_option linter.unusedVariables false
open Go.ChangeShapes Go.WideShapes Go.RowKit

/-- A world of the class R. -/
structure In (R : World → Prop) where
  w : World
  h : R w
section
variable {P : Program} {R : World → Prop}
theorem wp_region_in {id : Nat} {Q : Exit → Act → World → Prop} {a : Act} {w : World} {l : List Oper} (R : World → Prop) (h0 : R w.drew) (hm : P.follows .mixedOrders = true) (hB : Region.lexB .any l.toArray = true)
    (h : wpQuiet P l.toArray (fun w' => ∃ p : In R, w' = p.w) (fun a' => ∀ w', (∃ p : In R, w' = p.w) → Q .normal a' w') l a) : (Code.region id l.toArray true).wp P Q a w :=
  wp_region_quiet (C := fun w' => ∃ p : In R, w' = p.w) hm hB ⟨⟨w.drew, h0⟩, rfl⟩ (by simpa using h)
theorem in_of {f : FuncId} {args : Array Value} {p : In R} {v : Value} {X : World → Prop} (h : Calls P f args p.w fun e w' => e = .returned v ∧ X w') (hX : ∀ w', X w' → R w') :
    Calls P f args p.w fun e w'' => e = .returned v ∧ ∃ q : In R, w'' = q.w := h.mono fun e w' ⟨he, hx⟩ => ⟨he, ⟨w', hX w' hx⟩, rfl⟩
theorem in_same {f : FuncId} {args : Array Value} {p : In R} {v : Value} (h : Calls P f args p.w fun e w' => e = .returned v ∧ p.w = w') :
    Calls P f args p.w fun e w'' => e = .returned v ∧ ∃ q : In R, w'' = q.w := h.mono fun e w' ⟨he, hx⟩ => ⟨he, p, hx.symm⟩
/-- The worlds behind W in which all that W has lies as it lay. -/
def Lt (W v : World) : Prop := Below W.heap.size W v
theorem Lt.refl (W : World) : Lt W W := Below.refl _ _
theorem Lt.drew (W : World) : Lt W W.drew := Base.drew1 (Below.refl _ _)
instance (W : World) : Nonempty (In (Lt W)) := ⟨⟨W, Lt.refl W⟩⟩
/-- .. of a callee that turns nothing that was there. -/
theorem in_below {W : World} {f : FuncId} {args : Array Value} {p : In (Lt W)} {v : Value} (h : Calls P f args p.w fun e w' => e = .returned v ∧ Below p.w.heap.size p.w w') :
    Calls P f args p.w fun e w'' => e = .returned v ∧ ∃ q : In (Lt W), w'' = q.w := in_of h fun w' hb => Base.next p.h hb
end
end Go.Proofs.Ytbamdilihpnhjaa.Base
