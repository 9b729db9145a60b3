/-
  The examples of chapter 17 hold (alive), out of the contracts of the program's measures.
-/
import Derived.Test.YtjnnlffpleanpaaRtt
set_option linter.unusedSimpArgs false
set_option linter.unusedVariables false
namespace Go.Proofs.Ytjnnlffpleanpaa.Rtt
set_option linter.unusedVariables false
set_option maxRecDepth 20000
open Go.ChangeShapes Go.WideShapes Go.ChangeAt Go.RowKit
open Go.Proofs.Ytjnnlffpleanpaa.Base Go.Proofs.Ytjnnlffpleanpaa.RttPlain Go.Proofs.Ytjnnlffpleanpaa.Hop

section
variable {ρ : Operand → Value} {o : Oper} {u : World}
theorem eq_rtt (x y : Operand) (ho : o.op = .binOp .eql 24 x y 24) {h : Bool} {a b c d : Int} (hx : ρ x = .agg #[.bool h, .int .u64 a, .int .u64 b, .int .u64 c, .int .u64 d]) (hy : ρ y = .agg #[.bool h, .int .u64 a, .int .u64 b, .int .u64 c, .int .u64 d]) : (execOp ρ o).run Try.prog u = .ok (.value (.bool true)) u := by
  unfold execOp
  rw [ho]
  simp [hx, hy, go_sem]
theorem lt_no (x y : Operand) (ho : o.op = .binOp .lss 22 x y 22) {n m : Int} (hx : ρ x = .int .u64 n) (hy : ρ y = .int .u64 m) (h : ¬ n < m) : (execOp ρ o).run Try.prog u = .ok (.value (.bool false)) u := by
  unfold execOp
  rw [ho]
  simp [hx, hy, go_sem]
  omega
theorem gt_no (x y : Operand) (ho : o.op = .binOp .gtr 22 x y 22) {n m : Int} (hx : ρ x = .int .u64 n) (hy : ρ y = .int .u64 m) (h : ¬ m < n) : (execOp ρ o).run Try.prog u = .ok (.value (.bool false)) u := by
  unfold execOp
  rw [ho]
  simp [hx, hy, go_sem]
  omega
theorem ne_no (x y : Operand) (ho : o.op = .binOp .neq 22 x y 22) {n : Int} (hx : ρ x = .int .u64 n) (hy : ρ y = .int .u64 n) : (execOp ρ o).run Try.prog u = .ok (.value (.bool false)) u := by
  unfold execOp
  rw [ho]
  simp [hx, hy, go_sem]
theorem ix_u64 (x y : Operand) (ho : o.op = .indexAddr 30 x y) {b off n cap t : Nat} (hx : ρ x = .slice (some ⟨b, off, none⟩) n cap) (hy : ρ y = .int .i64 t) (ht : t < n) : (execOp ρ o).run Try.prog u = .ok (.value (.pointer (some ⟨b, off + t, none⟩))) u := by
  unfold execOp
  rw [ho]
  have h1 : (t : Int) < (n : Int) := by omega
  simp [hx, hy, go_sem, h1]
theorem cv_u32 (x : Operand) (ho : o.op = .convert 32 22 x) {n : Int} (hx : ρ x = .int .u32 n) (h0 : 0 ≤ n) (h1 : n ≤ 4294967295) : (execOp ρ o).run Try.prog u = .ok (.value (.int .u64 n)) u := by
  unfold execOp
  rw [ho]
  have h2 : IntKind.u64.wrap n = n := by rw [IntKind.wrap_u64]; omega
  simp [hx, go_sem, h2]
theorem ad_u64 (x y : Operand) (ho : o.op = .binOp .add 22 x y 22) {n m : Int} (hx : ρ x = .int .u64 n) (hy : ρ y = .int .u64 m) (h0 : 0 ≤ n + m) (h1 : n + m ≤ 18446744073709551615) : (execOp ρ o).run Try.prog u = .ok (.value (.int .u64 (n + m))) u := by
  unfold execOp
  rw [ho]
  have h2 : IntKind.u64.wrap (n + m) = n + m := by rw [IntKind.wrap_u64]; omega
  simp [hx, hy, go_sem, h2]
end
def rA : Rt := ⟨true, 100, 100, 50, 100⟩
def rB : Rt := ⟨true, 60, 95, 47, 60⟩
theorem fitA : RFit rA := by constructor <;> decide
theorem exR1 : sampleR rt0 100 = rA := by kernel_rfl
theorem exR2 : sampleR rA 60 = rB := by kernel_rfl
theorem exR3 : timeoutR rA 5 10 = 300 := by decide +kernel
theorem exR4 : timeoutR rt0 5 100 = 105 := by decide +kernel
theorem exR5 : windowR rA 5 10 = 112 := by decide +kernel
set_option maxHeartbeats 4000000 in
theorem alive_rtt (w : World) :
    Calls Try.prog 8 #[] w fun e w' => e = .returned (.bool true) ∧ Below w.heap.size w w' := by
  have C1 := sample_any rt0 fit0 100 (by decide) (by decide) w
  rw [exR1] at C1
  have C2 := fun V => sample_any rA fitA 60 (by decide) (by decide) V
  rw [exR2] at C2
  have C3 := fun V => timeout_any rA fitA 5 10 (by decide) (by decide) (by decide) (by decide) V
  rw [exR3] at C3
  have C4 := fun V => timeout_any rt0 fit0 5 100 (by decide) (by decide) (by decide) (by decide) V
  rw [exR4] at C4
  have C5 := fun V => window_any rA fitA 5 10 (by decide) (by decide) (by decide) (by decide) V
  rw [exR5] at C5
  simp only [rcells, rA, rB, rt0] at C1 C2 C3 C4 C5
  go_enter Try.func8, Try.ntmps8
  go_upto_region 2 with (go_at_call 9; refine C1.mono ?_; rintro e u1 ⟨rfl, L1⟩)
  refine at_any ?_
  intro W hW
  obtain ⟨b1, M1⟩ : Blk W u1.heap.size #[.bool true, .int .u64 100, .int .u64 100, .int .u64 50, .int .u64 100] 24 ∧ Below w.heap.size w W := by
    subst hW
    exact ⟨Blk.new _ _ _, L1.alloc L1.size _⟩
  clear hW
  have k0 := b1.cell 0
  have k1 := b1.cell 1
  have k2 := b1.cell 2
  have k3 := b1.cell 3
  have k4 := b1.cell 4
  have hlt := b1.lt
  simp at k0 k1 k2 k3 k4
  go_upto_region 3 with (go_at_call 9; refine (C2 _).mono ?_; rintro e u2 ⟨rfl, L2⟩)
  refine at_any ?_
  intro V hV
  obtain ⟨b2, c2, M2⟩ : Blk V u2.heap.size #[.bool true, .int .u64 60, .int .u64 95, .int .u64 47, .int .u64 60] 24 ∧ Blk V u1.heap.size #[.bool true, .int .u64 100, .int .u64 100, .int .u64 50, .int .u64 100] 24 ∧ Below w.heap.size w V := by
    subst hV
    exact ⟨Blk.new _ _ _, (b1.below L2 b1.lt).alloc _, (Base.next M1 L2).alloc (Base.next M1 L2).size _⟩
  clear hV k0 k1 k2 k3 k4 hlt b1 C1 C2
  have x0 : V.cell? ⟨u1.heap.size, 0, none⟩ = some (.bool true) := c2.cell 0
  have x1 : V.cell? ⟨u1.heap.size, 1, none⟩ = some (.int .u64 100) := c2.cell 1
  have x2 : V.cell? ⟨u1.heap.size, 2, none⟩ = some (.int .u64 100) := c2.cell 2
  have x3 : V.cell? ⟨u1.heap.size, 3, none⟩ = some (.int .u64 50) := c2.cell 3
  have x4 : V.cell? ⟨u1.heap.size, 4, none⟩ = some (.int .u64 100) := c2.cell 4
  have y0 : V.cell? ⟨u2.heap.size, 0, none⟩ = some (.bool true) := b2.cell 0
  have y1 : V.cell? ⟨u2.heap.size, 1, none⟩ = some (.int .u64 60) := b2.cell 1
  have y2 : V.cell? ⟨u2.heap.size, 2, none⟩ = some (.int .u64 95) := b2.cell 2
  have y3 : V.cell? ⟨u2.heap.size, 3, none⟩ = some (.int .u64 47) := b2.cell 3
  have y4 : V.cell? ⟨u2.heap.size, 4, none⟩ = some (.int .u64 60) := b2.cell 4
  have l1 := c2.lt
  have l2 := b2.lt
  go_wp2_with (first
    | (go_at_call 11; (with_reducible refine (C3 V).mono ?_); rintro e v3 ⟨rfl, L3⟩; have M3 := Base.next M2 L3; have s3 := L3.size)
    | (go_at_call 11; (with_reducible refine (C4 v3).mono ?_); rintro e v4 ⟨rfl, L4⟩; have L34 := Base.next L3 L4; have M4 := Base.next M3 L4; have s4 := L34.size; have z0 := keepCell L34 x0; have z1 := keepCell L34 x1; have z2 := keepCell L34 x2; have z3 := keepCell L34 x3; have z4 := keepCell L34 x4)
    | (go_at_call 13; (with_reducible refine (C5 v4).mono ?_); rintro e v5 ⟨rfl, L5⟩; have M5 := Base.next M4 L5))
  all_goals go_ret
  all_goals exact ⟨rfl, M5⟩
end Go.Proofs.Ytjnnlffpleanpaa.Rtt
