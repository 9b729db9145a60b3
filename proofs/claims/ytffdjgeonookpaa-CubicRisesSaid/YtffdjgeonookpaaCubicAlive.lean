/-
  The examples of chapter 22 hold (alive), out of the contracts of the program's CUBIC windows.
-/
import Derived.Test.YtffdjgeonookpaaCubic
set_option linter.unusedSimpArgs false
set_option linter.unusedVariables false
namespace Go.Proofs.Ytffdjgeonookpaa.Cubic
set_option linter.unusedVariables false
set_option maxRecDepth 20000
open Go.ChangeShapes Go.WideShapes Go.ChangeAt Go.RowKit
open Go.Proofs.Ytffdjgeonookpaa.Base Go.Proofs.Ytffdjgeonookpaa.RenoPlain Go.Proofs.Ytffdjgeonookpaa.CubicPlain Go.Proofs.Ytffdjgeonookpaa.Reno Go.Proofs.Ytffdjgeonookpaa.Hop

theorem eqWin {ρ : Operand → Value} {o : Oper} {u : World} (x y : Operand) (ho : o.op = .binOp .eql 29 x y 29) {w : Wn} (hx : ρ x = .agg (wc w)) (hy : ρ y = .agg (wc w)) : (execOp ρ o).run Try.prog u = .ok (.value (.bool true)) u := by
  unfold execOp
  rw [ho]
  simp [hx, hy, go_sem, wc]
theorem uC (x : Int) (h : 0 ≤ x ∧ x ≤ 10000000 := by decide) : U x := ⟨h.1, by omega⟩
theorem fitC (a b c d : Int) (h : (0 ≤ a ∧ a ≤ 10000000) ∧ (0 ≤ b ∧ b ≤ 10000000) ∧ (0 ≤ c ∧ c ≤ 10000000) ∧ (0 ≤ d ∧ d ≤ 10000000) := by decide) : WFit ⟨a, b, 0, c, 0, 0, d⟩ := ⟨uC a h.1, uC b h.2.1, uC 0, uC c h.2.2.1, uC 0, uC 0, uC d h.2.2.2⟩
theorem ex_long : longC 400 0 1 = 10000000 := by decide +kernel
set_option maxHeartbeats 4000000 in
theorem alive_cubic (w : World) :
    Calls Try.prog 11 #[] w fun e w' => e = .returned (.bool true) ∧ Below w.heap.size w w' := by
  have C1 := fun V => cut_any ⟨100, 0, 0, 50, 0, 0, 3⟩ (fitC 100 0 50 3) 7 10 (uC 7) (uC 10) V
  have C2 := fun V => cut_any ⟨100, 0, 0, 150, 0, 0, 0⟩ (fitC 100 0 150 0) 7 10 (uC 7) (uC 10) V
  have C3 := fun V => long_any 5 5 1 (uC 5) (uC 5) (uC 1) V
  have C4 := fun V => long_any 400 0 1 (uC 400) (uC 0) (uC 1) V
  have C5 := fun V => atC_any 100 7 7 1 (uC 100) (uC 7) (uC 7) (uC 1) V
  have C6 := fun V => atC_any 100 0 10000000 1 (uC 100) (uC 0) (uC 10000000) (uC 1) V
  rw [show cutC ⟨100, 0, 0, 50, 0, 0, 3⟩ 7 10 = ⟨70, 70, 0, 100, 18446744073709551615, 0, 0⟩ by decide +kernel] at C1
  rw [show cutC ⟨100, 0, 0, 150, 0, 0, 0⟩ 7 10 = ⟨70, 70, 0, 85, 18446744073709551615, 0, 0⟩ by decide +kernel] at C2
  rw [show longC 5 5 1 = 0 by decide +kernel] at C3
  rw [ex_long] at C4
  rw [show atC 100 7 7 1 = 100 by decide +kernel] at C5
  rw [show atC 100 0 10000000 1 = 500 by decide +kernel] at C6
  unfold WinPost wc at C1 C2
  simp only at C1 C2
  go_enter Try.func11, Try.ntmps11
  go_upto_region 2 with (go_at_call 18; refine (C1 w).mono ?_; rintro e y1 ⟨rfl, L1⟩)
  refine at_any ?_
  intro W1 hW
  obtain ⟨B1, hL⟩ : Blk W1 y1.heap.size #[.int .u64 70, .int .u64 70, .int .u64 0, .int .u64 100, .int .u64 18446744073709551615, .int .u64 0, .int .u64 0] 29 ∧ Below w.heap.size w W1 := by
    subst hW
    exact ⟨Blk.new _ _ _, L1.alloc L1.size _⟩
  clear hW L1 C1
  generalize y1.heap.size = b1 at *
  go_upto_region 3 with (go_at_call 18; refine (C2 W1).mono ?_; rintro e y2 ⟨rfl, L1⟩)
  refine at_any ?_
  intro W2 hW
  obtain ⟨B2, B1', hL2⟩ : Blk W2 y2.heap.size #[.int .u64 70, .int .u64 70, .int .u64 0, .int .u64 85, .int .u64 18446744073709551615, .int .u64 0, .int .u64 0] 29 ∧ Blk W2 b1 #[.int .u64 70, .int .u64 70, .int .u64 0, .int .u64 100, .int .u64 18446744073709551615, .int .u64 0, .int .u64 0] 29 ∧ Below w.heap.size w W2 := by
    subst hW
    exact ⟨Blk.new _ _ _, (B1.below L1 B1.lt).alloc _, (Base.next hL L1).alloc (Base.next hL L1).size _⟩
  clear hW L1 C2 B1 hL
  generalize y2.heap.size = b2 at *
  have hr := Below.refl W2.heap.size W2
  go_wp2_with (first
    | (go_at_call 12; (with_reducible refine (C3 _).mono ?_); rintro e v3 ⟨rfl, L3⟩; clear C3)
    | (go_at_call 12; (with_reducible refine (C4 _).mono ?_); rintro e v4 ⟨rfl, L4⟩; have M4 := Base.next L3 L4; clear C4)
    | (go_at_call 14; (with_reducible refine (C5 _).mono ?_); rintro e v5 ⟨rfl, L5⟩; have M5 := Base.next M4 L5; clear C5)
    | (go_at_call 14; (with_reducible refine (C6 _).mono ?_); rintro e v6 ⟨rfl, L6⟩; have M6 := Base.next M5 L6; have D1 := B1'.below M6 B1'.lt; have D2 := B2.below M6 B2.lt; obtain ⟨p0, p1, p2, p3, p4, p5, p6⟩ := blk7 D1; obtain ⟨q0, q1, q2, q3, q4, q5, q6⟩ := blk7 D2; have l1 := D1.lt; have l2 := D2.lt))
  all_goals go_ret
  all_goals exact ⟨rfl, Base.next hL2 M6⟩
end Go.Proofs.Ytffdjgeonookpaa.Cubic
