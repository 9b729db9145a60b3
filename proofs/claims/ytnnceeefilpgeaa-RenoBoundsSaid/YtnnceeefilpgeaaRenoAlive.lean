/-
  The examples of chapter 21 hold (alive), out of the contracts of the program's Reno windows.
-/
import Derived.Test.YtnnceeefilpgeaaReno
set_option linter.unusedSimpArgs false
set_option linter.unusedVariables false
namespace Go.Proofs.Ytnnceeefilpgeaa.Reno
set_option linter.unusedVariables false
set_option maxRecDepth 20000
open Go.ChangeShapes Go.WideShapes Go.ChangeAt Go.RowKit
open Go.Proofs.Ytnnceeefilpgeaa.Base Go.Proofs.Ytnnceeefilpgeaa.RenoPlain Go.Proofs.Ytnnceeefilpgeaa.Hop

theorem eq_win {ρ : Operand → Value} {o : Oper} {u : World} (x y : Operand) (ho : o.op = .binOp .eql 24 x y 24) {w : Wn} (hx : ρ x = .agg (wc w)) (hy : ρ y = .agg (wc w)) : (execOp ρ o).run Try.prog u = .ok (.value (.bool true)) u := by
  unfold execOp
  rw [ho]
  simp [hx, hy, go_sem, wc]
theorem uS (x : Int) (h : 0 ≤ x ∧ x ≤ 99 := by decide) : U x := ⟨h.1, by omega⟩
theorem fitS (a b c : Int) (h : (0 ≤ a ∧ a ≤ 99) ∧ (0 ≤ b ∧ b ≤ 99) ∧ (0 ≤ c ∧ c ≤ 99) := by decide) : WFit ⟨a, b, c, 0, 0, 0, 0⟩ := ⟨uS a h.1, uS b h.2.1, uS c h.2.2, uS 0, uS 0, uS 0, uS 0⟩
set_option maxHeartbeats 4000000 in
theorem alive_reno (w : World) :
    Calls Try.prog 9 #[] w fun e w' => e = .returned (.bool true) ∧ Below w.heap.size w w' := by
  have C1 := fun V => grow_any ⟨10, 0, 0, 0, 0, 0, 0⟩ (fitS 10 0 0) 10 3 (uS 10) (uS 3) V
  have C2 := fun V => grow_any ⟨10, 99, 0, 0, 0, 0, 0⟩ (fitS 10 99 0) 10 3 (uS 10) (uS 3) V
  have C3 := fun V => cut_any ⟨11, 0, 4, 0, 0, 0, 0⟩ (fitS 11 0 4) 1 2 (uS 1) (uS 2) V
  rw [show growR ⟨10, 0, 0, 0, 0, 0, 0⟩ 10 3 = ⟨13, 0, 0, 0, 0, 0, 0⟩ by decide +kernel] at C1
  rw [show growR ⟨10, 99, 0, 0, 0, 0, 0⟩ 10 3 = ⟨16, 99, 0, 0, 0, 0, 0⟩ by decide +kernel] at C2
  rw [show cutR ⟨11, 0, 4, 0, 0, 0, 0⟩ 1 2 = ⟨5, 5, 0, 0, 0, 0, 0⟩ by decide +kernel] at C3
  unfold WinPost wc at C1 C2 C3
  simp only at C1 C2 C3
  go_enter Try.func9, Try.ntmps9
  go_upto_region 2 with (go_at_call 10; refine (C1 w).mono ?_; rintro e y1 ⟨rfl, L1⟩)
  refine at_any ?_
  intro W1 hW
  obtain ⟨B1, hL⟩ : Blk W1 y1.heap.size #[.int .u64 13, .int .u64 0, .int .u64 0, .int .u64 0, .int .u64 0, .int .u64 0, .int .u64 0] 24 ∧ Below w.heap.size w W1 := by
    subst hW
    exact ⟨Blk.new _ _ _, L1.alloc L1.size _⟩
  clear hW L1 C1
  generalize y1.heap.size = b1 at *
  go_upto_region 3 with (go_at_call 10; refine (C2 W1).mono ?_; rintro e y2 ⟨rfl, L1⟩)
  refine at_any ?_
  intro W2 hW
  obtain ⟨B2, B1', hL2⟩ : Blk W2 y2.heap.size #[.int .u64 16, .int .u64 99, .int .u64 0, .int .u64 0, .int .u64 0, .int .u64 0, .int .u64 0] 24 ∧ Blk W2 b1 #[.int .u64 13, .int .u64 0, .int .u64 0, .int .u64 0, .int .u64 0, .int .u64 0, .int .u64 0] 24 ∧ Below w.heap.size w W2 := by
    subst hW
    exact ⟨Blk.new _ _ _, (B1.below L1 B1.lt).alloc _, (Base.next hL L1).alloc (Base.next hL L1).size _⟩
  clear hW L1 C2 B1 hL
  generalize y2.heap.size = b2 at *
  go_upto_region 4 with (go_at_call 14; refine (C3 W2).mono ?_; rintro e y3 ⟨rfl, L1⟩)
  refine at_any ?_
  intro W3 hW
  obtain ⟨B3, B2', B1, hL⟩ : Blk W3 y3.heap.size #[.int .u64 5, .int .u64 5, .int .u64 0, .int .u64 0, .int .u64 0, .int .u64 0, .int .u64 0] 24 ∧ Blk W3 b2 #[.int .u64 16, .int .u64 99, .int .u64 0, .int .u64 0, .int .u64 0, .int .u64 0, .int .u64 0] 24 ∧ Blk W3 b1 #[.int .u64 13, .int .u64 0, .int .u64 0, .int .u64 0, .int .u64 0, .int .u64 0, .int .u64 0] 24 ∧ Below w.heap.size w W3 := by
    subst hW
    exact ⟨Blk.new _ _ _, (B2.below L1 B2.lt).alloc _, (B1'.below L1 B1'.lt).alloc _, (Base.next hL2 L1).alloc (Base.next hL2 L1).size _⟩
  clear hW L1 C3 B2 B1' hL2
  generalize y3.heap.size = b3 at *
  obtain ⟨p0, p1, p2, p3, p4, p5, p6⟩ := blk7 B1
  obtain ⟨q0, q1, q2, q3, q4, q5, q6⟩ := blk7 B2'
  obtain ⟨r0, r1, r2, r3, r4, r5, r6⟩ := blk7 B3
  have l1 := B1.lt
  have l2 := B2'.lt
  have l3 := B3.lt
  go_wp2
  all_goals go_ret
  all_goals exact ⟨rfl, hL⟩
end Go.Proofs.Ytnnceeefilpgeaa.Reno
