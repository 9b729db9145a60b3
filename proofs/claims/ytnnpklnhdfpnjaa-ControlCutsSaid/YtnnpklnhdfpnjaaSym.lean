/-
  A region in the text's order whose operations are guarded by Bools that are not decided: walked once, by hand; a slot behind a guard holds 'if guard then value else undef'. Nothing here names a program.
-/
import Derived.WalkKit
import Derived.ProofKit
import Derived.OwnWalk
set_option linter.unusedSimpArgs false
set_option linter.unusedVariables false
namespace Go.Proofs.Ytnnpklnhdfpnjaa.Sym
set_option linter.unusedVariables false
open Go.RowKit

section
variable {P : Program} {ops : Array Oper} {rest : List Oper} {o : Oper} {a : Act} {Q : Exit → Act → World → Prop} {w w' : World} {v : Value}
/-- An operation without a guard that yields v. -/
theorem step (hg : o.guard = none) (hr : (execOp a.eval o).run P w = .ok (.value v) w') (h : wpList P ops Q rest (a.put o.dst v) w') : wpList P ops Q (o :: rest) a w :=
  wpList_plain hg fun _ hK => by
    unfold Oper.wp
    rw [hr]
    exact hK _ _ h
/-- A call without a guard of a function that leaves the world. -/
theorem call_one {f : FuncId} {args : Array Value} (hg : o.guard = none) (hr : (execOp a.eval o).run P w = .ok (.enter f args) w) (hc : ∀ W, Calls P f args W fun e w' => e = .returned v ∧ W = w') (h : wpList P ops Q rest (a.put o.dst v) w) : wpList P ops Q (o :: rest) a w :=
  wpList_plain hg fun _ hK => by
    unfold Oper.wp
    rw [hr]
    exact (hc w).mono fun e w' ⟨he, hw⟩ => by subst he; subst hw; exact hK _ _ h
/-- One behind a guard: it yields v where the guard's Bool is pol. -/
theorem guarded {k d : Nat} {ok : Oper} {b pol : Bool} (hg : o.guard = some (k, pol)) (hk : ops[k]? = some ok) (hd : ok.dst = some d) (hb : a.tmps[d]? = some (.bool b))
    (hr : b = pol → (execOp a.eval o).run P w = .ok (.value v) w) (h : wpList P ops Q rest (a.put o.dst (if b = pol then v else undef)) w) : wpList P ops Q (o :: rest) a w := by
  have hw : Region.wanted o (yielded ops a.tmps) = decide (b = pol) := by
    unfold Region.wanted yielded
    rw [hg]
    simp only [hk, hd, Option.bind_some, hb]
    cases b <;> cases pol <;> rfl
  refine wpList_step fun K hK => ?_
  by_cases hp : b = pol
  · rw [if_pos hp] at h
    rw [decide_eq_true hp] at hw
    rw [if_pos hw]
    unfold Oper.wp
    rw [hr hp]
    exact hK _ _ h
  · rw [if_neg hp] at h
    rw [decide_eq_false hp] at hw
    rw [if_neg (by rw [hw]; simp)]
    exact hK _ _ h
/-- What a slot holds behind its guard. -/
theorem behind {ρ : Operand → Value} {x : Operand} {b pol : Bool} {u : Value} (h : ρ x = if b = pol then u else undef) (hp : b = pol) : ρ x = u := h.trans (if_pos hp)
end
section
variable {P : Program} {o : Oper} {ρ : Operand → Value} {u : World}
theorem move_run (x : Operand) (ho : o.op = .move x) {v : Value} (hx : ρ x = v) : (execOp ρ o).run P u = .ok (.value v) u := by unfold execOp; rw [ho]; simp [hx]
theorem and_run (x y : Operand) (ho : o.op = .pick x y (.const (.bool false))) {b c : Bool} (hc : ρ (.const (.bool false)) = .bool false) (hx : ρ x = .bool b) (hy : ρ y = if b = true then .bool c else undef) : (execOp ρ o).run P u = .ok (.value (.bool (b && c))) u := by
  unfold execOp; rw [ho]; cases b <;> simp [hx, hy, hc, go_sem]
theorem or_run (x y : Operand) (ho : o.op = .pick x (.const (.bool true)) y) {b c : Bool} (hc : ρ (.const (.bool true)) = .bool true) (hx : ρ x = .bool b) (hy : ρ y = if b = false then .bool c else undef) : (execOp ρ o).run P u = .ok (.value (.bool (b || c))) u := by
  unfold execOp; rw [ho]; cases b <;> simp [hx, hy, hc, go_sem]
end
end Go.Proofs.Ytnnpklnhdfpnjaa.Sym
