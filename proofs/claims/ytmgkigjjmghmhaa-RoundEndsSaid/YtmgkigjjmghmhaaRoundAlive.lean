/-
  The examples of chapter 20 hold (alive), out of the contracts of the program's rounds.
-/
import Derived.Test.YtmgkigjjmghmhaaRound
set_option linter.unusedSimpArgs false
set_option linter.unusedVariables false
namespace Go.Proofs.Ytmgkigjjmghmhaa.Round
set_option linter.unusedVariables false
set_option maxRecDepth 20000
open Go.ChangeShapes Go.WideShapes Go.ChangeAt Go.RowKit
open Go.Proofs.Ytmgkigjjmghmhaa.Base Go.Proofs.Ytmgkigjjmghmhaa.RoundPlain Go.Proofs.Ytmgkigjjmghmhaa.Hop

theorem eq_rd {ρ : Operand → Value} {o : Oper} {u : World} (x y : Operand) (ho : o.op = .binOp .eql 24 x y 24) {a b : Int} (hx : ρ x = .agg #[.int .u64 a, .int .u64 b]) (hy : ρ y = .agg #[.int .u64 a, .int .u64 b]) : (execOp ρ o).run Try.prog u = .ok (.value (.bool true)) u := by
  unfold execOp
  rw [ho]
  simp [hx, hy, go_sem]
theorem fitD (e c : Int) (h0 : 0 ≤ e) (h1 : e ≤ 9) (h2 : 0 ≤ c) (h3 : c ≤ 9) : DFit ⟨e, c⟩ := ⟨h0, by show e ≤ _; omega, h2, by show c ≤ _; omega⟩
set_option maxHeartbeats 4000000 in
theorem alive_round (w : World) :
    Calls Try.prog 6 #[] w fun e w' => e = .returned (.bool true) ∧ Below w.heap.size w w' := by
  have C1 := fun V => begin_any ⟨0, 0⟩ (fitD 0 0 (by decide) (by decide) (by decide) (by decide)) 3 9 (by decide) (by decide) (by decide) (by decide) V
  have C2 := fun V => begin_any ⟨9, 1⟩ (fitD 9 1 (by decide) (by decide) (by decide) (by decide)) 8 20 (by decide) (by decide) (by decide) (by decide) V
  have C3 := fun V => fresh_any ⟨9, 1⟩ (fitD 9 1 (by decide) (by decide) (by decide) (by decide)) 9 (by decide) (by decide) V
  have C4 := fun V => fresh_any ⟨9, 1⟩ (fitD 9 1 (by decide) (by decide) (by decide) (by decide)) 8 (by decide) (by decide) V
  rw [show beginP ⟨0, 0⟩ 3 9 = ⟨9, 1⟩ from by decide +kernel, show freshP ⟨0, 0⟩ 3 = true from by decide +kernel] at C1
  rw [show beginP ⟨9, 1⟩ 8 20 = ⟨9, 1⟩ from by decide +kernel, show freshP ⟨9, 1⟩ 8 = false from by decide +kernel] at C2
  rw [show freshP ⟨9, 1⟩ 9 = true from by decide +kernel] at C3
  rw [show freshP ⟨9, 1⟩ 8 = false from by decide +kernel] at C4
  go_enter Try.func6, Try.ntmps6
  simp only at C1 C2 C3 C4
  go_upto_region 2 with (go_at_call 7; refine (C1 w).mono ?_; rintro e y1 ⟨rfl, L1⟩)
  refine at_any ?_
  intro W1 hW
  obtain ⟨rB, hL⟩ : Blk W1 y1.heap.size #[.int .u64 9, .int .u64 1] 24 ∧ Below w.heap.size w W1 := by
    subst hW
    exact ⟨Blk.new _ _ _, L1.alloc L1.size _⟩
  clear hW L1
  generalize y1.heap.size = rb at *
  have k0 : W1.cell? ⟨rb, 0, none⟩ = some (.int .u64 9) := rB.cell 0
  have k1 : W1.cell? ⟨rb, 1, none⟩ = some (.int .u64 1) := rB.cell 1
  have hlt := rB.lt
  go_upto_region 3 with (go_at_call 7; refine (C2 W1).mono ?_; rintro e y2 ⟨rfl, L2⟩)
  refine at_any ?_
  intro W2 hW
  obtain ⟨sB, rC, hM⟩ : Blk W2 y2.heap.size #[.int .u64 9, .int .u64 1] 24 ∧ Blk W2 rb #[.int .u64 9, .int .u64 1] 24 ∧ Below w.heap.size w W2 := by
    subst hW
    exact ⟨Blk.new _ _ _, (rB.below L2 rB.lt).alloc _, (Base.next hL L2).alloc (Base.next hL L2).size _⟩
  clear hW L2 k0 k1 hlt rB
  generalize y2.heap.size = sb at *
  have k0 : W2.cell? ⟨rb, 0, none⟩ = some (.int .u64 9) := rC.cell 0
  have k1 : W2.cell? ⟨rb, 1, none⟩ = some (.int .u64 1) := rC.cell 1
  have k2 : W2.cell? ⟨sb, 0, none⟩ = some (.int .u64 9) := sB.cell 0
  have k3 : W2.cell? ⟨sb, 1, none⟩ = some (.int .u64 1) := sB.cell 1
  have hlt := rC.lt
  have hl2 := sB.lt
  go_wp2_with (first
    | (go_at_call 9; (with_reducible refine (C3 W2).mono ?_); rintro e y3 ⟨rfl, L3⟩; have j0 := keepCell L3 k0; have j1 := keepCell L3 k1; have s3 := L3.size)
    | (go_at_call 9; (with_reducible refine (C4 y3).mono ?_); rintro e y4 ⟨rfl, L4⟩))
  all_goals go_ret
  all_goals exact ⟨rfl, Base.next (Base.next hM L3) L4⟩
end Go.Proofs.Ytmgkigjjmghmhaa.Round
