/-
  Footprints behind calls; calls at a step of a region that draws its order; cells that stay. Nothing here names a program.
-/
import Derived.Test.YtbamdilihpnhjaaFr
import Derived.Test.YtbamdilihpnhjaaIn
import Derived.WalkKit
import Derived.ProofKit
set_option linter.unusedSimpArgs false
set_option linter.unusedVariables false
namespace Go.Proofs.Ytbamdilihpnhjaa.Base
set_option linter.unusedVariables false
open Go.ChangeShapes Go.WideShapes Go.ChangeAt Go.RowKit

theorem keepCell {W w : World} (h : Below W.heap.size W w) {b o : Nat} {v : Value} (hv : W.cell? ⟨b, o, none⟩ = some v) : w.cell? ⟨b, o, none⟩ = some v := by
  rw [h.cell (World.block_lt_of_cell? W _ hv)]
  exact hv
theorem inCell {W : World} (p : In (Lt W)) {b o : Nat} {v : Value} (hv : W.cell? ⟨b, o, none⟩ = some v) : p.w.cell? ⟨b, o, none⟩ = some v := keepCell p.h hv
/-- The footprint behind a call: what it was, and the blocks that the call made. -/
def Plus (S : Nat → Prop) (w w' : World) : Nat → Prop := fun k => S k ∨ (w.heap.size ≤ k ∧ k < w'.heap.size)
theorem Fr.toBelow' {S : Nat → Prop} {B : Nat} {w w' : World} (h : Fr S w w') (hB : B ≤ w.heap.size) (hS : ∀ k, k < w.heap.size → S k → B ≤ k) : Below B w w' :=
  ⟨h.os, h.tape, h.output, h.size, fun k hk => h.block k (Nat.lt_of_lt_of_le hk hB) fun hs => by have := hS k (Nat.lt_of_lt_of_le hk hB) hs; omega⟩
/-- A call of a Go function at a step of a region that draws its order. -/
theorem step_call {P : Program} {ops : Array Oper} {o : Oper} {a : Act} {K : Act → World → Prop} {Q : Exit → Act → World → Prop} {E : Prop} {W : World} {f : FuncId} {args : Array Value} (hgd : o.guard = none) (hv : (execOp a.eval o).run P W = .ok (.enter f args) W)
    (h : Calls P f args W fun e w' => ∃ v, e = .returned v ∧ K (a.put o.dst v) w') : if Region.wanted o (yielded ops a.tmps) = true then o.wp P a W K Q else E := by
  rw [if_pos (by simp [Region.wanted, hgd])]
  simp only [Oper.wp, hv, Oper.upon]
  exact h.mono fun e w' ⟨v, he, hk⟩ => by subst he; exact hk
theorem enter1 {P : Program} {ρ : Operand → Value} {o : Oper} {u : World} {F : FuncId} {X : Value} (x : Operand) (ts : Array TypeId) (ho : o.op = .call { callee := .value (.func F), args := #[x], argTypes := ts })
    (hf : ρ (.func F) = .func (.func F) #[] #[]) (hx : ρ x = X) (hc : (callFunc F #[X]).run P u = .ok (.enter F #[X]) u) : (execOp ρ o).run P u = .ok (.enter F #[X]) u := by
  unfold execOp
  rw [ho]
  simp [hf, hx, go_sem]
  exact hc
theorem step_call1 {P : Program} {ops : Array Oper} {o : Oper} {a : Act} {K : Act → World → Prop} {Q : Exit → Act → World → Prop} {E : Prop} {W : World} {F : FuncId} {X : Value} (hgd : o.guard = none) (x : Operand) (ts : Array TypeId)
    (ho : o.op = .call { callee := .value (.func F), args := #[x], argTypes := ts }) (hx : a.eval x = X) (hc : (callFunc F #[X]).run P W = .ok (.enter F #[X]) W)
    (h : Calls P F #[X] W fun e w' => ∃ v, e = .returned v ∧ K (a.put o.dst v) w') : if Region.wanted o (yielded ops a.tmps) = true then o.wp P a W K Q else E :=
  step_call hgd (enter1 x ts ho rfl hx hc) h
theorem Fr.undrew {S : Nat → Prop} {w w' : World} (h : Fr S w.drew w') : Fr S w w' := ⟨h.os, h.tape, h.output, h.size, h.block⟩
theorem at_any {P : Program} {c : Code} {Q : Exit → Act → World → Prop} {a : Act} {w : World} (h : ∀ W, W = w → c.wp P Q a W) : c.wp P Q a w := h w rfl
end Go.Proofs.Ytbamdilihpnhjaa.Base
