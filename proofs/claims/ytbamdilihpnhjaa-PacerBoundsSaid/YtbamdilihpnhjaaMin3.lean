/-
  min and max of three ints, as one value with its bounds; an operation that yields a value. 
-/
import Derived.Test.YtbamdilihpnhjaaRows
import Derived.Test.YtbamdilihpnhjaaBase
import Derived.WalkKit
import Derived.ProofKit
import Derived.OwnWalk
set_option linter.unusedSimpArgs false
set_option linter.unusedVariables false
namespace Go.Proofs.Ytbamdilihpnhjaa.Base
set_option linter.unusedVariables false
open Go.RowKit

section
variable {P : Program}
/-- An operation of a region in the text's order that yields v and leaves the world. -/
theorem wpl_value {ops : Array Oper} {rest : List Oper} {o : Oper} {a : Act} {Q : Exit → Act → World → Prop} {w : World} {v : Value} (hgd : o.guard = none) (hr : (execOp a.eval o).run P w = .ok (.value v) w)
    (h : wpList P ops Q rest (a.put o.dst v) w) : wpList P ops Q (o :: rest) a w :=
  wpList_plain hgd fun _ hK => by
    unfold Oper.wp
    rw [hr]
    exact hK _ _ h
end
/-- min of three ints, whichever operation asks for it. -/
theorem min3 (A B C : Int) : ∃ m, (m = A ∨ m = B ∨ m = C) ∧ m ≤ A ∧ m ≤ B ∧ m ≤ C ∧
    ∀ {o : Oper} (x y z : Operand) (ts : Array TypeId) (ho : o.op = .call { callee := .builtin .min, args := #[x, y, z], argTypes := ts }) {ρ : Operand → Value} (hx : ρ x = .int .i64 A) (hy : ρ y = .int .i64 B) (hz : ρ z = .int .i64 C) (u : World), (execOp ρ o).run Try.prog u = .ok (.value (.int .i64 m)) u := by
  by_cases h1 : B < A
  · by_cases h2 : C < B
    · refine ⟨C, by simp, by omega, by omega, by omega, fun x y z ts ho ρ hx hy hz u => ?_⟩
      unfold execOp
      rw [ho]
      simp [hx, hy, hz, go_sem, Builtin.min_, Builtin.min2, h1, h2]
      first | done | omega
    · refine ⟨B, by simp, by omega, by omega, by omega, fun x y z ts ho ρ hx hy hz u => ?_⟩
      unfold execOp
      rw [ho]
      simp [hx, hy, hz, go_sem, Builtin.min_, Builtin.min2, h1, h2]
      first | done | omega
  · by_cases h2 : C < A
    · refine ⟨C, by simp, by omega, by omega, by omega, fun x y z ts ho ρ hx hy hz u => ?_⟩
      unfold execOp
      rw [ho]
      simp [hx, hy, hz, go_sem, Builtin.min_, Builtin.min2, h1, h2]
      first | done | omega
    · refine ⟨A, by simp, by omega, by omega, by omega, fun x y z ts ho ρ hx hy hz u => ?_⟩
      unfold execOp
      rw [ho]
      simp [hx, hy, hz, go_sem, Builtin.min_, Builtin.min2, h1, h2]
      first | done | omega
/-- max of three ints, whichever operation asks for it. -/
theorem max3 (A B C : Int) : ∃ m, (m = A ∨ m = B ∨ m = C) ∧ A ≤ m ∧ B ≤ m ∧ C ≤ m ∧
    ∀ {o : Oper} (x y z : Operand) (ts : Array TypeId) (ho : o.op = .call { callee := .builtin .max, args := #[x, y, z], argTypes := ts }) {ρ : Operand → Value} (hx : ρ x = .int .i64 A) (hy : ρ y = .int .i64 B) (hz : ρ z = .int .i64 C) (u : World), (execOp ρ o).run Try.prog u = .ok (.value (.int .i64 m)) u := by
  by_cases h1 : A < B
  · by_cases h2 : B < C
    · refine ⟨C, by simp, by omega, by omega, by omega, fun x y z ts ho ρ hx hy hz u => ?_⟩
      unfold execOp
      rw [ho]
      simp [hx, hy, hz, go_sem, Builtin.max_, Builtin.max2, h1, h2]
      first | done | omega
    · refine ⟨B, by simp, by omega, by omega, by omega, fun x y z ts ho ρ hx hy hz u => ?_⟩
      unfold execOp
      rw [ho]
      simp [hx, hy, hz, go_sem, Builtin.max_, Builtin.max2, h1, h2]
      first | done | omega
  · by_cases h2 : A < C
    · refine ⟨C, by simp, by omega, by omega, by omega, fun x y z ts ho ρ hx hy hz u => ?_⟩
      unfold execOp
      rw [ho]
      simp [hx, hy, hz, go_sem, Builtin.max_, Builtin.max2, h1, h2]
      first | done | omega
    · refine ⟨A, by simp, by omega, by omega, by omega, fun x y z ts ho ρ hx hy hz u => ?_⟩
      unfold execOp
      rw [ho]
      simp [hx, hy, hz, go_sem, Builtin.max_, Builtin.max2, h1, h2]
      first | done | omega
/-- min of two ints, whichever operation asks for it. -/
theorem min2 (A B : Int) : ∃ m, (m = A ∨ m = B) ∧ m ≤ A ∧ m ≤ B ∧
    ∀ {o : Oper} (x y : Operand) (ts : Array TypeId) (ho : o.op = .call { callee := .builtin .min, args := #[x, y], argTypes := ts }) {ρ : Operand → Value} (hx : ρ x = .int .i64 A) (hy : ρ y = .int .i64 B) (u : World), (execOp ρ o).run Try.prog u = .ok (.value (.int .i64 m)) u := by
  by_cases h1 : B < A
  · refine ⟨B, by simp, by omega, by omega, fun x y ts ho ρ hx hy u => ?_⟩
    unfold execOp
    rw [ho]
    simp [hx, hy, go_sem, Builtin.min_, Builtin.min2, h1]
    first | done | omega
  · refine ⟨A, by simp, by omega, by omega, fun x y ts ho ρ hx hy u => ?_⟩
    unfold execOp
    rw [ho]
    simp [hx, hy, go_sem, Builtin.min_, Builtin.min2, h1]
    first | done | omega
/-- max of two ints, whichever operation asks for it. -/
theorem max2 (A B : Int) : ∃ m, (m = A ∨ m = B) ∧ A ≤ m ∧ B ≤ m ∧
    ∀ {o : Oper} (x y : Operand) (ts : Array TypeId) (ho : o.op = .call { callee := .builtin .max, args := #[x, y], argTypes := ts }) {ρ : Operand → Value} (hx : ρ x = .int .i64 A) (hy : ρ y = .int .i64 B) (u : World), (execOp ρ o).run Try.prog u = .ok (.value (.int .i64 m)) u := by
  by_cases h1 : A < B
  · refine ⟨B, by simp, by omega, by omega, fun x y ts ho ρ hx hy u => ?_⟩
    unfold execOp
    rw [ho]
    simp [hx, hy, go_sem, Builtin.max_, Builtin.max2, h1]
    first | done | omega
  · refine ⟨A, by simp, by omega, by omega, fun x y ts ho ρ hx hy u => ?_⟩
    unfold execOp
    rw [ho]
    simp [hx, hy, go_sem, Builtin.max_, Builtin.max2, h1]
    first | done | omega
end Go.Proofs.Ytbamdilihpnhjaa.Base
