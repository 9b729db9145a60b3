/-
  The examples of chapter 19 hold (alive), out of the contracts of the program's probe timer.
-/
import Derived.Test.YtehmeopbenmeiaaProbe
set_option linter.unusedSimpArgs false
set_option linter.unusedVariables false
namespace Go.Proofs.Ytehmeopbenmeiaa.Probe
set_option linter.unusedVariables false
set_option maxRecDepth 20000
open Go.ChangeShapes Go.WideShapes Go.ChangeAt Go.RowKit
open Go.Proofs.Ytehmeopbenmeiaa.Base Go.Proofs.Ytehmeopbenmeiaa.ProbePlain Go.Proofs.Ytehmeopbenmeiaa.Hop

theorem eq_pb {ρ : Operand → Value} {o : Oper} {u : World} (x y : Operand) (ho : o.op = .binOp .eql 24 x y 24) {a b : Int} (hx : ρ x = .agg #[.int .i64 a, .int .u64 b]) (hy : ρ y = .agg #[.int .i64 a, .int .u64 b]) : (execOp ρ o).run Try.prog u = .ok (.value (.bool true)) u := by
  unfold execOp
  rw [ho]
  simp [hx, hy, go_sem]
theorem fitP (c f : Int) (h0 : 0 ≤ c) (h1 : c ≤ 9) (h2 : 0 ≤ f) (h3 : f ≤ 9) : PFit ⟨c, f⟩ := ⟨by show _ ≤ c; omega, by show c ≤ _; omega, h2, by show f ≤ _; omega⟩
theorem exP1 : deadlineP ⟨0, 5⟩ true 10 99 = 15 := by decide +kernel
theorem exP2 : deadlineP ⟨0, 0⟩ false 10 99 = 18446744073709551615 := by decide +kernel
set_option maxHeartbeats 4000000 in
theorem alive_probe (w : World) :
    Calls Try.prog 7 #[] w fun e w' => e = .returned (.bool true) ∧ Below w.heap.size w w' := by
  have C1 := fun V => deadline_any ⟨0, 5⟩ (fitP 0 5 (by decide) (by decide) (by decide) (by decide)) true 10 99 (by decide) (by decide) (by decide) (by decide) V
  have C2 := fun V => deadline_any ⟨0, 0⟩ (fitP 0 0 (by decide) (by decide) (by decide) (by decide)) false 10 99 (by decide) (by decide) (by decide) (by decide) V
  have C3 := fun V => fired_any ⟨2, 5⟩ (fitP 2 5 (by decide) (by decide) (by decide) (by decide)) 9 (by decide) (by decide) V
  have C4 := fun V => calm_any ⟨2, 5⟩ (fitP 2 5 (by decide) (by decide) (by decide) (by decide)) 9 (by decide) (by decide) V
  have C5 := fun V => sent_any ⟨2, 5⟩ (fitP 2 5 (by decide) (by decide) (by decide) (by decide)) 9 (by decide) (by decide) V
  rw [exP1] at C1
  rw [exP2] at C2
  rw [show firedP ⟨2, 5⟩ 9 = ⟨3, 9⟩ from rfl] at C3
  simp only [calmP, sentP] at C4 C5
  go_enter Try.func7, Try.ntmps7
  go_wp2_with (first
    | (go_at_call 8; (with_reducible refine (C1 w).mono ?_); rintro e u1 ⟨rfl, L1⟩)
    | (go_at_call 8; (with_reducible refine (C2 u1).mono ?_); rintro e u2 ⟨rfl, L2⟩)
    | (go_at_call 10; (with_reducible refine (C3 u2).mono ?_); rintro e u3 ⟨rfl, L3⟩)
    | (go_at_call 12; (with_reducible refine (C4 u3).mono ?_); rintro e u4 ⟨rfl, L4⟩)
    | (go_at_call 13; (with_reducible refine (C5 u4).mono ?_); rintro e u5 ⟨rfl, L5⟩))
  all_goals go_ret
  all_goals exact ⟨rfl, Base.next (Base.next (Base.next (Base.next L1 L2) L3) L4) L5⟩
end Go.Proofs.Ytehmeopbenmeiaa.Probe
