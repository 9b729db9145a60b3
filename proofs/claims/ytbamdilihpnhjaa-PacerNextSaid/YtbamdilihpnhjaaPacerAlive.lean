/-
  The examples of chapter 24 hold (alive), out of the contracts of the program's token buckets.
-/
import Derived.Test.YtbamdilihpnhjaaPacer
set_option linter.unusedSimpArgs false
set_option linter.unusedVariables false
namespace Go.Proofs.Ytbamdilihpnhjaa.Pacer
set_option linter.unusedVariables false
set_option maxRecDepth 20000
open Go.ChangeShapes Go.WideShapes Go.ChangeAt Go.RowKit
open Go.Proofs.Ytbamdilihpnhjaa.Base Go.Proofs.Ytbamdilihpnhjaa.RenoPlain Go.Proofs.Ytbamdilihpnhjaa.PacerPlain Go.Proofs.Ytbamdilihpnhjaa.Reno Go.Proofs.Ytbamdilihpnhjaa.Hop

theorem uP (x : Int) (h : 0 ≤ x ∧ x ≤ 10000000 := by decide) : U x := ⟨h.1, by omega⟩
theorem fitP (a b c : Int) (h : (0 ≤ a ∧ a ≤ 10000000) ∧ (0 ≤ b ∧ b ≤ 10000000) ∧ (0 ≤ c ∧ c ≤ 10000000) := by decide) : PFit ⟨a, b, c⟩ := ⟨uP a h.1, uP b h.2.1, uP c h.2.2⟩
theorem eq_pc {ρ : Operand → Value} {o : Oper} {u : World} (x y : Operand) (ho : o.op = .binOp .eql 24 x y 24) {s : Pc} (hx : ρ x = .agg (pc s)) (hy : ρ y = .agg (pc s)) : (execOp ρ o).run Try.prog u = .ok (.value (.bool true)) u := by
  unfold execOp
  rw [ho]
  simp [hx, hy, go_sem, pc]
set_option maxHeartbeats 4000000 in
theorem alive_pacer (w : World) :
    Calls Try.prog 7 #[] w fun e w' => e = .returned (.bool true) ∧ Below w.heap.size w w' := by
  have C1 := fun V => start_any 10 0 1 (uP 10) (uP 0) (uP 1) V
  have C2 := fun V => take_any ⟨10000000, 0, 1⟩ (fitP 10000000 0 1) 10 0 10 (uP 10) (uP 0) (uP 10) V
  have C3 := fun V => take_any ⟨0, 0, 1⟩ (fitP 0 0 1) 10 999999 1 (uP 10) (uP 999999) (uP 1) V
  have C4 := fun V => take_any ⟨999999, 999999, 1⟩ (fitP 999999 999999 1) 10 1000000 1 (uP 10) (uP 1000000) (uP 1) V
  have C5 := fun V => next_any ⟨0, 0, 1⟩ (fitP 0 0 1) 10 0 1 (uP 10) (uP 0) (uP 1) V
  have C6 := fun V => rate_any 1000 1000000 1 (uP 1000) (uP 1000000) (uP 1) V
  have C7 := fun V => next_any ⟨0, 0, 1⟩ (fitP 0 0 1) 10 0 11 (uP 10) (uP 0) (uP 11) V
  rw [show startP 10 0 1 = ⟨10000000, 0, 1⟩ by decide +kernel] at C1
  rw [show takeP ⟨10000000, 0, 1⟩ 10 0 10 = ⟨0, 0, 1⟩ by decide +kernel, show takeB ⟨10000000, 0, 1⟩ 10 0 10 = true by decide +kernel] at C2
  rw [show takeP ⟨0, 0, 1⟩ 10 999999 1 = ⟨999999, 999999, 1⟩ by decide +kernel, show takeB ⟨0, 0, 1⟩ 10 999999 1 = false by decide +kernel] at C3
  rw [show takeP ⟨999999, 999999, 1⟩ 10 1000000 1 = ⟨0, 1000000, 1⟩ by decide +kernel, show takeB ⟨999999, 999999, 1⟩ 10 1000000 1 = true by decide +kernel] at C4
  rw [show nextP ⟨0, 0, 1⟩ 10 0 1 = 1000000 by decide +kernel] at C5
  rw [show rateP 1000 1000000 1 = 1250 by decide +kernel] at C6
  rw [show nextP ⟨0, 0, 1⟩ 10 0 11 = 18446744073709551615 by decide +kernel] at C7
  unfold PcPost at C1
  unfold pc at C1 C2 C3 C4 C5 C7
  simp only at C1 C2 C3 C4 C5 C7
  go_enter Try.func7, Try.ntmps7
  go_upto_region 2 with (first
    | (go_at_call 13; refine (C1 _).mono ?_; rintro x' y0 ⟨rfl, L0⟩)
    | (go_at_call 8; (with_reducible refine (C2 _).mono ?_); rintro x' y1 ⟨rfl, L1⟩; have M1 := Base.next L0 L1))
  refine at_any ?_
  intro X hX
  obtain ⟨pB, hL⟩ : Blk X y1.heap.size #[.int .u64 0, .int .u64 0, .int .u64 1] 24 ∧ Below w.heap.size w X := by
    subst hX
    exact ⟨Blk.new _ _ _, M1.alloc M1.size _⟩
  have hge_pB : w.heap.size ≤ y1.heap.size := M1.size
  clear hX L0 L1 M1
  generalize y1.heap.size = b_pB at *
  have lt_pB := pB.lt
  have pB_0 : _ = some (Value.int .u64 0) := pB.cell 0
  have pB_1 : _ = some (Value.int .u64 0) := pB.cell 1
  have pB_2 : _ = some (Value.int .u64 1) := pB.cell 2
  go_upto_region 3 with (go_at_call 8; (with_reducible refine (C3 _).mono ?_); rintro x' y2 ⟨rfl, L2⟩; replace pB := pB.below L2 lt_pB; replace hL := Base.next hL L2; replace lt_pB := pB.lt)
  refine at_any ?_
  intro X hX
  obtain ⟨qB', pB', hL'⟩ : Blk X y2.heap.size #[.int .u64 999999, .int .u64 999999, .int .u64 1] 24 ∧ Blk X b_pB #[.int .u64 0, .int .u64 0, .int .u64 1] 24 ∧ Below w.heap.size w X := by
    subst hX
    exact ⟨Blk.new _ _ _, pB.alloc _, hL.alloc hL.size _⟩
  have hgt_qB_pB : b_pB < y2.heap.size := pB.lt
  have hge_qB : w.heap.size ≤ y2.heap.size := hL.size
  clear hX pB hL
  clear lt_pB pB_0 pB_1 pB_2
  generalize y2.heap.size = b_qB at *
  have qB := qB'
  have pB := pB'
  have hL := hL'
  clear qB' pB' hL'
  have lt_qB := qB.lt
  have qB_0 : _ = some (Value.int .u64 999999) := qB.cell 0
  have qB_1 : _ = some (Value.int .u64 999999) := qB.cell 1
  have qB_2 : _ = some (Value.int .u64 1) := qB.cell 2
  have lt_pB := pB.lt
  have pB_0 : _ = some (Value.int .u64 0) := pB.cell 0
  have pB_1 : _ = some (Value.int .u64 0) := pB.cell 1
  have pB_2 : _ = some (Value.int .u64 1) := pB.cell 2
  go_upto_region 4 with (go_at_call 8; (with_reducible refine (C4 _).mono ?_); rintro x' y3 ⟨rfl, L3⟩; replace qB := qB.below L3 lt_qB; replace pB := pB.below L3 lt_pB; replace hL := Base.next hL L3; replace lt_qB := qB.lt; replace lt_pB := pB.lt)
  refine at_any ?_
  intro X hX
  obtain ⟨rB', qB', pB', hL'⟩ : Blk X y3.heap.size #[.int .u64 0, .int .u64 1000000, .int .u64 1] 24 ∧ Blk X b_qB #[.int .u64 999999, .int .u64 999999, .int .u64 1] 24 ∧ Blk X b_pB #[.int .u64 0, .int .u64 0, .int .u64 1] 24 ∧ Below w.heap.size w X := by
    subst hX
    exact ⟨Blk.new _ _ _, qB.alloc _, pB.alloc _, hL.alloc hL.size _⟩
  have hgt_rB_qB : b_qB < y3.heap.size := qB.lt
  have hgt_rB_pB : b_pB < y3.heap.size := pB.lt
  have hge_rB : w.heap.size ≤ y3.heap.size := hL.size
  clear hX qB pB hL
  clear lt_qB qB_0 qB_1 qB_2 lt_pB pB_0 pB_1 pB_2
  generalize y3.heap.size = b_rB at *
  have rB := rB'
  have qB := qB'
  have pB := pB'
  have hL := hL'
  clear rB' qB' pB' hL'
  have lt_rB := rB.lt
  have rB_0 : _ = some (Value.int .u64 0) := rB.cell 0
  have lt_qB := qB.lt
  have lt_pB := pB.lt
  have pB_0 : _ = some (Value.int .u64 0) := pB.cell 0
  have pB_1 : _ = some (Value.int .u64 0) := pB.cell 1
  have pB_2 : _ = some (Value.int .u64 1) := pB.cell 2
  go_wp2_with (first
    | (go_at_call 10; (with_reducible refine (C5 _).mono ?_); rintro x' y4 ⟨rfl, L4⟩; replace rB := rB.below L4 lt_rB; replace qB := qB.below L4 lt_qB; replace pB := pB.below L4 lt_pB; replace hL := Base.next hL L4; replace lt_rB := rB.lt; replace lt_qB := qB.lt; replace lt_pB := pB.lt; replace pB_0 : _ = some (Value.int .u64 0) := pB.cell 0; replace pB_1 : _ = some (Value.int .u64 0) := pB.cell 1; replace pB_2 : _ = some (Value.int .u64 1) := pB.cell 2; replace rB_0 : _ = some (Value.int .u64 0) := rB.cell 0; clear C5)
    | (go_at_call 16; refine (C6 _).mono ?_; rintro x' y5 ⟨rfl, L5⟩; replace rB := rB.below L5 lt_rB; replace qB := qB.below L5 lt_qB; replace pB := pB.below L5 lt_pB; replace hL := Base.next hL L5; replace lt_rB := rB.lt; replace lt_qB := qB.lt; replace lt_pB := pB.lt; replace pB_0 : _ = some (Value.int .u64 0) := pB.cell 0; replace pB_1 : _ = some (Value.int .u64 0) := pB.cell 1; replace pB_2 : _ = some (Value.int .u64 1) := pB.cell 2)
    | (go_at_call 10; (with_reducible refine (C7 _).mono ?_); rintro x' y6 ⟨rfl, L6⟩; replace hL := Base.next hL L6))
  all_goals go_ret
  all_goals exact ⟨rfl, hL⟩
end Go.Proofs.Ytbamdilihpnhjaa.Pacer
