/-
  Contracts of the reference's Check: seventeen Bools, the first that is false.
-/
import Derived.Test.YtnnpklnhdfpnjaaRows
import Derived.Test.YtnnpklnhdfpnjaaFr
import Derived.Test.YtnnpklnhdfpnjaaSym
import Derived.Test.YtnnpklnhdfpnjaaHeld
import Derived.Test.YtnnpklnhdfpnjaaConfPlain
import Derived.Test.YtnnpklnhdfpnjaaSat
import Derived.WalkKit
import Derived.ProofKit
import Derived.OpenShut
import Derived.WalkSpells
import Derived.LoopTactic
import Derived.Lib.Hide
import Derived.Deep.Cut
set_option linter.unusedSimpArgs false
set_option linter.unusedVariables false
namespace Go.Proofs.Ytnnpklnhdfpnjaa.Conf
set_option linter.unusedVariables false
set_option maxRecDepth 20000
open Go.ChangeShapes Go.WideShapes Go.ChangeAt Go.RowKit
open Go.Proofs.Ytnnpklnhdfpnjaa.Base Go.Proofs.Ytnnpklnhdfpnjaa.Sym Go.Proofs.Ytnnpklnhdfpnjaa.ConfPlain

section
variable {o : Oper} {ρ : Operand → Value} {u : World}
theorem fa0 (x : Operand) (ho : o.op = .fieldAddr 24 x 0) {g : Nat} (hx : ρ x = .pointer (some ⟨g, 0, none⟩)) : (execOp ρ o).run Try.prog u = .ok (.value (.pointer (some ⟨g, 0, none⟩))) u := by unfold execOp; rw [ho]; simp [hx, go_sem]
theorem fa1 (x : Operand) (ho : o.op = .fieldAddr 24 x 1) {g : Nat} (hx : ρ x = .pointer (some ⟨g, 0, none⟩)) : (execOp ρ o).run Try.prog u = .ok (.value (.pointer (some ⟨g, 1, none⟩))) u := by unfold execOp; rw [ho]; simp [hx, go_sem]
theorem fa2 (x : Operand) (ho : o.op = .fieldAddr 24 x 2) {g : Nat} (hx : ρ x = .pointer (some ⟨g, 0, none⟩)) : (execOp ρ o).run Try.prog u = .ok (.value (.pointer (some ⟨g, 2, none⟩))) u := by unfold execOp; rw [ho]; simp [hx, go_sem]
theorem fa3 (x : Operand) (ho : o.op = .fieldAddr 24 x 3) {g : Nat} (hx : ρ x = .pointer (some ⟨g, 0, none⟩)) : (execOp ρ o).run Try.prog u = .ok (.value (.pointer (some ⟨g, 3, none⟩))) u := by unfold execOp; rw [ho]; simp [hx, go_sem]
theorem fa4 (x : Operand) (ho : o.op = .fieldAddr 24 x 4) {g : Nat} (hx : ρ x = .pointer (some ⟨g, 0, none⟩)) : (execOp ρ o).run Try.prog u = .ok (.value (.pointer (some ⟨g, 4, none⟩))) u := by unfold execOp; rw [ho]; simp [hx, go_sem]
theorem fa5 (x : Operand) (ho : o.op = .fieldAddr 24 x 5) {g : Nat} (hx : ρ x = .pointer (some ⟨g, 0, none⟩)) : (execOp ρ o).run Try.prog u = .ok (.value (.pointer (some ⟨g, 5, none⟩))) u := by unfold execOp; rw [ho]; simp [hx, go_sem]
theorem fa6 (x : Operand) (ho : o.op = .fieldAddr 24 x 6) {g : Nat} (hx : ρ x = .pointer (some ⟨g, 0, none⟩)) : (execOp ρ o).run Try.prog u = .ok (.value (.pointer (some ⟨g, 6, none⟩))) u := by unfold execOp; rw [ho]; simp [hx, go_sem]
theorem fa7 (x : Operand) (ho : o.op = .fieldAddr 24 x 7) {g : Nat} (hx : ρ x = .pointer (some ⟨g, 0, none⟩)) : (execOp ρ o).run Try.prog u = .ok (.value (.pointer (some ⟨g, 7, none⟩))) u := by unfold execOp; rw [ho]; simp [hx, go_sem]
theorem fa8 (x : Operand) (ho : o.op = .fieldAddr 24 x 8) {g : Nat} (hx : ρ x = .pointer (some ⟨g, 0, none⟩)) : (execOp ρ o).run Try.prog u = .ok (.value (.pointer (some ⟨g, 8, none⟩))) u := by unfold execOp; rw [ho]; simp [hx, go_sem]
theorem fa9 (x : Operand) (ho : o.op = .fieldAddr 24 x 9) {g : Nat} (hx : ρ x = .pointer (some ⟨g, 0, none⟩)) : (execOp ρ o).run Try.prog u = .ok (.value (.pointer (some ⟨g, 9, none⟩))) u := by unfold execOp; rw [ho]; simp [hx, go_sem]
theorem fa10 (x : Operand) (ho : o.op = .fieldAddr 24 x 10) {g : Nat} (hx : ρ x = .pointer (some ⟨g, 0, none⟩)) : (execOp ρ o).run Try.prog u = .ok (.value (.pointer (some ⟨g, 10, none⟩))) u := by unfold execOp; rw [ho]; simp [hx, go_sem]
theorem fa11 (x : Operand) (ho : o.op = .fieldAddr 24 x 11) {g : Nat} (hx : ρ x = .pointer (some ⟨g, 0, none⟩)) : (execOp ρ o).run Try.prog u = .ok (.value (.pointer (some ⟨g, 11, none⟩))) u := by unfold execOp; rw [ho]; simp [hx, go_sem]
theorem fa12 (x : Operand) (ho : o.op = .fieldAddr 24 x 12) {g : Nat} (hx : ρ x = .pointer (some ⟨g, 0, none⟩)) : (execOp ρ o).run Try.prog u = .ok (.value (.pointer (some ⟨g, 12, none⟩))) u := by unfold execOp; rw [ho]; simp [hx, go_sem]
theorem fa13 (x : Operand) (ho : o.op = .fieldAddr 24 x 13) {g : Nat} (hx : ρ x = .pointer (some ⟨g, 0, none⟩)) : (execOp ρ o).run Try.prog u = .ok (.value (.pointer (some ⟨g, 13, none⟩))) u := by unfold execOp; rw [ho]; simp [hx, go_sem]
theorem fa14 (x : Operand) (ho : o.op = .fieldAddr 24 x 14) {g : Nat} (hx : ρ x = .pointer (some ⟨g, 0, none⟩)) : (execOp ρ o).run Try.prog u = .ok (.value (.pointer (some ⟨g, 14, none⟩))) u := by unfold execOp; rw [ho]; simp [hx, go_sem]
theorem fa15 (x : Operand) (ho : o.op = .fieldAddr 24 x 15) {g : Nat} (hx : ρ x = .pointer (some ⟨g, 0, none⟩)) : (execOp ρ o).run Try.prog u = .ok (.value (.pointer (some ⟨g, 15, none⟩))) u := by unfold execOp; rw [ho]; simp [hx, go_sem]
theorem fa16 (x : Operand) (ho : o.op = .fieldAddr 24 x 16) {g : Nat} (hx : ρ x = .pointer (some ⟨g, 0, none⟩)) : (execOp ρ o).run Try.prog u = .ok (.value (.pointer (some ⟨g, 16, none⟩))) u := by unfold execOp; rw [ho]; simp [hx, go_sem]
theorem ld_i64 (x : Operand) (ho : o.op = .load 3 x) {g i : Nat} {n : Int} (hx : ρ x = .pointer (some ⟨g, i, none⟩)) (hc : u.cell? ⟨g, i, none⟩ = some (.int .i64 n)) : (execOp ρ o).run Try.prog u = .ok (.value (.int .i64 n)) u := by unfold execOp; rw [ho]; simp [hx, hc, go_sem]
theorem geq_i64 (x y : Operand) (ho : o.op = .binOp .geq 3 x y 3) {a b : Int} (hx : ρ x = .int .i64 a) (hy : ρ y = .int .i64 b) : (execOp ρ o).run Try.prog u = .ok (.value (.bool (decide (b ≤ a)))) u := by unfold execOp; rw [ho]; simp [hx, hy, go_sem]
theorem leq_i64 (x y : Operand) (ho : o.op = .binOp .leq 3 x y 3) {a b : Int} (hx : ρ x = .int .i64 a) (hy : ρ y = .int .i64 b) : (execOp ρ o).run Try.prog u = .ok (.value (.bool (decide (a ≤ b)))) u := by unfold execOp; rw [ho]; simp [hx, hy, go_sem]
theorem eql_i64 (x y : Operand) (ho : o.op = .binOp .eql 3 x y 3) {a b : Int} (hx : ρ x = .int .i64 a) (hy : ρ y = .int .i64 b) : (execOp ρ o).run Try.prog u = .ok (.value (.bool (a == b))) u := by unfold execOp; rw [ho]; simp [hx, hy, go_sem]
theorem neq_i64 (x y : Operand) (ho : o.op = .binOp .neq 3 x y 3) {a b : Int} (hx : ρ x = .int .i64 a) (hy : ρ y = .int .i64 b) : (execOp ρ o).run Try.prog u = .ok (.value (.bool (a != b))) u := by unfold execOp; rw [ho]; simp [hx, hy, go_sem]
theorem ld_u64 (x : Operand) (ho : o.op = .load 22 x) {g i : Nat} {n : Int} (hx : ρ x = .pointer (some ⟨g, i, none⟩)) (hc : u.cell? ⟨g, i, none⟩ = some (.int .u64 n)) : (execOp ρ o).run Try.prog u = .ok (.value (.int .u64 n)) u := by unfold execOp; rw [ho]; simp [hx, hc, go_sem]
theorem geq_u64 (x y : Operand) (ho : o.op = .binOp .geq 22 x y 22) {a b : Int} (hx : ρ x = .int .u64 a) (hy : ρ y = .int .u64 b) : (execOp ρ o).run Try.prog u = .ok (.value (.bool (decide (b ≤ a)))) u := by unfold execOp; rw [ho]; simp [hx, hy, go_sem]
theorem leq_u64 (x y : Operand) (ho : o.op = .binOp .leq 22 x y 22) {a b : Int} (hx : ρ x = .int .u64 a) (hy : ρ y = .int .u64 b) : (execOp ρ o).run Try.prog u = .ok (.value (.bool (decide (a ≤ b)))) u := by unfold execOp; rw [ho]; simp [hx, hy, go_sem]
theorem eql_u64 (x y : Operand) (ho : o.op = .binOp .eql 22 x y 22) {a b : Int} (hx : ρ x = .int .u64 a) (hy : ρ y = .int .u64 b) : (execOp ρ o).run Try.prog u = .ok (.value (.bool (a == b))) u := by unfold execOp; rw [ho]; simp [hx, hy, go_sem]
theorem neq_u64 (x y : Operand) (ho : o.op = .binOp .neq 22 x y 22) {a b : Int} (hx : ρ x = .int .u64 a) (hy : ρ y = .int .u64 b) : (execOp ρ o).run Try.prog u = .ok (.value (.bool (a != b))) u := by unfold execOp; rw [ho]; simp [hx, hy, go_sem]
theorem call_mul (x y : Operand) (ts : Array TypeId) (ho : o.op = .call { callee := .value (.func 42), args := #[x, y], argTypes := ts }) {X Y : Value} (hf : ρ (.func 42) = .func (.func 42) #[] #[]) (hx : ρ x = X) (hy : ρ y = Y) : (execOp ρ o).run Try.prog u = .ok (.enter 42 #[X, Y]) u := by
  unfold execOp
  rw [ho]
  simp [hf, hx, hy, go_sem]
end
theorem below_setRow {B g : Nat} {A w : World} {cs : Array Value} (h : Below B A w) (hg : B ≤ g) : Below B A (w.setRow g cs) :=
  ⟨h.os, h.tape, h.output, by simpa [World.setRow] using h.size, fun k hk => by
    rw [← h.block k hk]
    simp only [World.setRow, Array.getElem?_modify]
    rw [if_neg (by omega)]⟩
/-- The seventeen answers. -/
def flags (c : C) : List Bool := [(decide (1 ≤ c.bits) && decide (c.bits ≤ 64)), (c.one != 1), (decide (4 ≤ c.ring) && decide (c.ring ≤ 256)), decide (c.limit ≤ 4611686018427387903), (decide (1 ≤ c.room) && decide (c.room ≤ 65536)), (decide (1 ≤ c.mss) && decide (c.mss ≤ 1500)), (decide (c.least ≤ c.initial) && decide (c.initial ≤ c.most)), decide (Sat.mul 2 c.mss ≤ c.least), (decide (c.least ≤ c.most) && decide (c.most ≤ 1073741824)), ((c.algo == 1) || (c.algo == 2)), (decide (1 ≤ c.first) && decide (c.first ≤ 1099511627776)), (decide (1 ≤ c.grain) && decide (c.grain ≤ 1099511627776)), (decide (c.grain ≤ c.cap) && decide (c.cap ≤ 1099511627776)), (decide (c.mss ≤ c.burst) && decide (c.burst ≤ 1073741824)), (decide (1 ≤ c.slowest) && decide (c.slowest ≤ 4294967296)), (decide (0 ≤ c.chal) && decide (c.chal ≤ 64)), (decide (1 ≤ c.every) && decide (c.every ≤ 1099511627776))]
theorem flags_len (c : C) : (flags c).length = 17 := rfl
set_option maxHeartbeats 8000000 in
theorem ref_check (c : C) (m0 : 0 ≤ c.mss) (m1 : c.mss ≤ 18446744073709551615) (w : World) :
    Calls Try.prog 24 #[.agg #[.int .i64 c.bits, .int .u64 c.one, .int .i64 c.ring, .int .u64 c.limit, .int .i64 c.room, .int .u64 c.mss, .int .u64 c.initial, .int .u64 c.least, .int .u64 c.most, .int .i64 c.algo, .int .u64 c.first, .int .u64 c.grain, .int .u64 c.cap, .int .u64 c.burst, .int .u64 c.slowest, .int .i64 c.chal, .int .u64 c.every]] w fun e w' => e = .returned (.int .i64 (pos (flags c))) ∧ Below w.heap.size w w' := by
  have hB := Blk.new w #[.int .i64 c.bits, .int .u64 c.one, .int .i64 c.ring, .int .u64 c.limit, .int .i64 c.room, .int .u64 c.mss, .int .u64 c.initial, .int .u64 c.least, .int .u64 c.most, .int .i64 c.algo, .int .u64 c.first, .int .u64 c.grain, .int .u64 c.cap, .int .u64 c.burst, .int .u64 c.slowest, .int .i64 c.chal, .int .u64 c.every] 24
  have hL : Below w.heap.size w (w.alloc (.cells #[.int .i64 c.bits, .int .u64 c.one, .int .i64 c.ring, .int .u64 c.limit, .int .i64 c.room, .int .u64 c.mss, .int .u64 c.initial, .int .u64 c.least, .int .u64 c.most, .int .i64 c.algo, .int .u64 c.first, .int .u64 c.grain, .int .u64 c.cap, .int .u64 c.burst, .int .u64 c.slowest, .int .i64 c.chal, .int .u64 c.every] 24)) := (Below.refl _ _).alloc (Nat.le_refl _) _
  have hmul := fun W => Sat.ref_mul 2 c.mss (by decide) (by decide) m0 m1 W
  go_enter Try.func24, Try.ntmps24
  go_upto_region 1 with fail
  generalize w.alloc (.cells #[.int .i64 c.bits, .int .u64 c.one, .int .i64 c.ring, .int .u64 c.limit, .int .i64 c.room, .int .u64 c.mss, .int .u64 c.initial, .int .u64 c.least, .int .u64 c.most, .int .i64 c.algo, .int .u64 c.first, .int .u64 c.grain, .int .u64 c.cap, .int .u64 c.burst, .int .u64 c.slowest, .int .i64 c.chal, .int .u64 c.every] 24) = W at hB hL ⊢
  generalize hg : w.heap.size = g at hB ⊢
  have p0 := hB.cell 0
  have p1 := hB.cell 1
  have p2 := hB.cell 2
  have p3 := hB.cell 3
  have p4 := hB.cell 4
  have p5 := hB.cell 5
  have p6 := hB.cell 6
  have p7 := hB.cell 7
  have p8 := hB.cell 8
  have p9 := hB.cell 9
  have p10 := hB.cell 10
  have p11 := hB.cell 11
  have p12 := hB.cell 12
  have p13 := hB.cell 13
  have p14 := hB.cell 14
  have p15 := hB.cell 15
  have p16 := hB.cell 16
  have hS : Below W.heap.size W W.drew := Base.drew1 (Below.refl _ _)
  refine held_start (fun u => Below W.heap.size W u) (by kernel_rfl) ?_
  refine held_many (fuel := 50) (by kernel_rfl) (by kernel_rfl) (fun _ _ d _ _ h => by cases d <;> exact h) hS [0, 1, 2, 3, 4, 5, 6, 7, 8, 9, 10, 11, 12, 13, 14, 15, 16, 17, 18, 19, 20, 21, 22, 23, 24, 25, 26, 27, 28, 29, 30, 31, 32, 33, 34, 35, 36, 37, 38, 39, 40, 41, 42, 43, 44, 45, 46, 47, 48, 49, 50, 51, 52, 53, 56, 57, 58, 59, 60, 66, 67, 68, 74, 75, 76, 82, 83, 84, 90, 91, 92, 93, 94, 100, 101, 102, 103, 104, 110, 111, 112, 118, 119, 120, 126, 127, 128] _ _ (by kernel_rfl) ?_
  refine i_free (v := .pointer (some ⟨g, 0, none⟩)) rfl rfl (fun u hu => fa0 (.tmp 1) rfl (by kernel_rfl)) ?_
  refine i_free (v := .int .i64 c.bits) rfl rfl (fun u hu => ld_i64 (.tmp 5) rfl (by kernel_rfl) (held_cell hu p0)) ?_
  refine i_free (v := .bool (decide (1 ≤ c.bits))) rfl rfl (fun u hu => geq_i64 (.tmp 6) (.const (.int .i64 1)) rfl (by kernel_rfl) rfl) ?_
  refine i_free (v := .bool (decide (1 ≤ c.bits))) rfl rfl (fun u hu => move_run (.tmp 7) rfl (by kernel_rfl)) ?_
  refine i_if (v := .pointer (some ⟨g, 0, none⟩)) (b := decide (1 ≤ c.bits)) (pol := true) rfl rfl rfl rfl (by kernel_rfl) (fun h u hu => fa0 (.tmp 1) rfl (by kernel_rfl)) ?_
  refine i_if (v := .int .i64 c.bits) (b := decide (1 ≤ c.bits)) (pol := true) rfl rfl rfl rfl (by kernel_rfl) (fun h u hu => ld_i64 (.tmp 9) rfl (behind (u := .pointer (some ⟨g, 0, none⟩)) (by kernel_rfl) h) (held_cell hu p0)) ?_
  refine i_if (v := .bool (decide (c.bits ≤ 64))) (b := decide (1 ≤ c.bits)) (pol := true) rfl rfl rfl rfl (by kernel_rfl) (fun h u hu => leq_i64 (.tmp 10) (.const (.int .i64 64)) rfl (behind (u := .int .i64 c.bits) (by kernel_rfl) h) rfl) ?_
  refine i_free (v := .bool (decide (1 ≤ c.bits) && decide (c.bits ≤ 64))) rfl rfl (fun u hu => and_run (.tmp 8) (.tmp 11) rfl rfl (by kernel_rfl) (by kernel_rfl)) ?_
  refine i_free (v := .pointer (some ⟨g, 1, none⟩)) rfl rfl (fun u hu => fa1 (.tmp 1) rfl (by kernel_rfl)) ?_
  refine i_free (v := .int .u64 c.one) rfl rfl (fun u hu => ld_u64 (.tmp 13) rfl (by kernel_rfl) (held_cell hu p1)) ?_
  refine i_free (v := .bool ((c.one != 1))) rfl rfl (fun u hu => neq_u64 (.tmp 14) (.const (.int .u64 1)) rfl (by kernel_rfl) rfl) ?_
  refine i_free (v := .pointer (some ⟨g, 2, none⟩)) rfl rfl (fun u hu => fa2 (.tmp 1) rfl (by kernel_rfl)) ?_
  refine i_free (v := .int .i64 c.ring) rfl rfl (fun u hu => ld_i64 (.tmp 16) rfl (by kernel_rfl) (held_cell hu p2)) ?_
  refine i_free (v := .bool (decide (4 ≤ c.ring))) rfl rfl (fun u hu => geq_i64 (.tmp 17) (.const (.int .i64 4)) rfl (by kernel_rfl) rfl) ?_
  refine i_free (v := .bool (decide (4 ≤ c.ring))) rfl rfl (fun u hu => move_run (.tmp 18) rfl (by kernel_rfl)) ?_
  refine i_if (v := .pointer (some ⟨g, 2, none⟩)) (b := decide (4 ≤ c.ring)) (pol := true) rfl rfl rfl rfl (by kernel_rfl) (fun h u hu => fa2 (.tmp 1) rfl (by kernel_rfl)) ?_
  refine i_if (v := .int .i64 c.ring) (b := decide (4 ≤ c.ring)) (pol := true) rfl rfl rfl rfl (by kernel_rfl) (fun h u hu => ld_i64 (.tmp 20) rfl (behind (u := .pointer (some ⟨g, 2, none⟩)) (by kernel_rfl) h) (held_cell hu p2)) ?_
  refine i_if (v := .bool (decide (c.ring ≤ 256))) (b := decide (4 ≤ c.ring)) (pol := true) rfl rfl rfl rfl (by kernel_rfl) (fun h u hu => leq_i64 (.tmp 21) (.const (.int .i64 256)) rfl (behind (u := .int .i64 c.ring) (by kernel_rfl) h) rfl) ?_
  refine i_free (v := .bool (decide (4 ≤ c.ring) && decide (c.ring ≤ 256))) rfl rfl (fun u hu => and_run (.tmp 19) (.tmp 22) rfl rfl (by kernel_rfl) (by kernel_rfl)) ?_
  refine i_free (v := .pointer (some ⟨g, 3, none⟩)) rfl rfl (fun u hu => fa3 (.tmp 1) rfl (by kernel_rfl)) ?_
  refine i_free (v := .int .u64 c.limit) rfl rfl (fun u hu => ld_u64 (.tmp 24) rfl (by kernel_rfl) (held_cell hu p3)) ?_
  refine i_free (v := .bool (decide (c.limit ≤ 4611686018427387903))) rfl rfl (fun u hu => leq_u64 (.tmp 25) (.const (.int .u64 4611686018427387903)) rfl (by kernel_rfl) rfl) ?_
  refine i_free (v := .pointer (some ⟨g, 4, none⟩)) rfl rfl (fun u hu => fa4 (.tmp 1) rfl (by kernel_rfl)) ?_
  refine i_free (v := .int .i64 c.room) rfl rfl (fun u hu => ld_i64 (.tmp 27) rfl (by kernel_rfl) (held_cell hu p4)) ?_
  refine i_free (v := .bool (decide (1 ≤ c.room))) rfl rfl (fun u hu => geq_i64 (.tmp 28) (.const (.int .i64 1)) rfl (by kernel_rfl) rfl) ?_
  refine i_free (v := .bool (decide (1 ≤ c.room))) rfl rfl (fun u hu => move_run (.tmp 29) rfl (by kernel_rfl)) ?_
  refine i_if (v := .pointer (some ⟨g, 4, none⟩)) (b := decide (1 ≤ c.room)) (pol := true) rfl rfl rfl rfl (by kernel_rfl) (fun h u hu => fa4 (.tmp 1) rfl (by kernel_rfl)) ?_
  refine i_if (v := .int .i64 c.room) (b := decide (1 ≤ c.room)) (pol := true) rfl rfl rfl rfl (by kernel_rfl) (fun h u hu => ld_i64 (.tmp 31) rfl (behind (u := .pointer (some ⟨g, 4, none⟩)) (by kernel_rfl) h) (held_cell hu p4)) ?_
  refine i_if (v := .bool (decide (c.room ≤ 65536))) (b := decide (1 ≤ c.room)) (pol := true) rfl rfl rfl rfl (by kernel_rfl) (fun h u hu => leq_i64 (.tmp 32) (.const (.int .i64 65536)) rfl (behind (u := .int .i64 c.room) (by kernel_rfl) h) rfl) ?_
  refine i_free (v := .bool (decide (1 ≤ c.room) && decide (c.room ≤ 65536))) rfl rfl (fun u hu => and_run (.tmp 30) (.tmp 33) rfl rfl (by kernel_rfl) (by kernel_rfl)) ?_
  refine i_free (v := .pointer (some ⟨g, 5, none⟩)) rfl rfl (fun u hu => fa5 (.tmp 1) rfl (by kernel_rfl)) ?_
  refine i_free (v := .int .u64 c.mss) rfl rfl (fun u hu => ld_u64 (.tmp 35) rfl (by kernel_rfl) (held_cell hu p5)) ?_
  refine i_free (v := .bool (decide (1 ≤ c.mss))) rfl rfl (fun u hu => geq_u64 (.tmp 36) (.const (.int .u64 1)) rfl (by kernel_rfl) rfl) ?_
  refine i_free (v := .bool (decide (1 ≤ c.mss))) rfl rfl (fun u hu => move_run (.tmp 37) rfl (by kernel_rfl)) ?_
  refine i_if (v := .pointer (some ⟨g, 5, none⟩)) (b := decide (1 ≤ c.mss)) (pol := true) rfl rfl rfl rfl (by kernel_rfl) (fun h u hu => fa5 (.tmp 1) rfl (by kernel_rfl)) ?_
  refine i_if (v := .int .u64 c.mss) (b := decide (1 ≤ c.mss)) (pol := true) rfl rfl rfl rfl (by kernel_rfl) (fun h u hu => ld_u64 (.tmp 39) rfl (behind (u := .pointer (some ⟨g, 5, none⟩)) (by kernel_rfl) h) (held_cell hu p5)) ?_
  refine i_if (v := .bool (decide (c.mss ≤ 1500))) (b := decide (1 ≤ c.mss)) (pol := true) rfl rfl rfl rfl (by kernel_rfl) (fun h u hu => leq_u64 (.tmp 40) (.const (.int .u64 1500)) rfl (behind (u := .int .u64 c.mss) (by kernel_rfl) h) rfl) ?_
  refine i_free (v := .bool (decide (1 ≤ c.mss) && decide (c.mss ≤ 1500))) rfl rfl (fun u hu => and_run (.tmp 38) (.tmp 41) rfl rfl (by kernel_rfl) (by kernel_rfl)) ?_
  refine i_free (v := .pointer (some ⟨g, 6, none⟩)) rfl rfl (fun u hu => fa6 (.tmp 1) rfl (by kernel_rfl)) ?_
  refine i_free (v := .int .u64 c.initial) rfl rfl (fun u hu => ld_u64 (.tmp 43) rfl (by kernel_rfl) (held_cell hu p6)) ?_
  refine i_free (v := .pointer (some ⟨g, 7, none⟩)) rfl rfl (fun u hu => fa7 (.tmp 1) rfl (by kernel_rfl)) ?_
  refine i_free (v := .int .u64 c.least) rfl rfl (fun u hu => ld_u64 (.tmp 45) rfl (by kernel_rfl) (held_cell hu p7)) ?_
  refine i_free (v := .bool (decide (c.least ≤ c.initial))) rfl rfl (fun u hu => geq_u64 (.tmp 44) (.tmp 46) rfl (by kernel_rfl) (by kernel_rfl)) ?_
  refine i_free (v := .bool (decide (c.least ≤ c.initial))) rfl rfl (fun u hu => move_run (.tmp 47) rfl (by kernel_rfl)) ?_
  refine i_if (v := .pointer (some ⟨g, 6, none⟩)) (b := decide (c.least ≤ c.initial)) (pol := true) rfl rfl rfl rfl (by kernel_rfl) (fun h u hu => fa6 (.tmp 1) rfl (by kernel_rfl)) ?_
  refine i_if (v := .int .u64 c.initial) (b := decide (c.least ≤ c.initial)) (pol := true) rfl rfl rfl rfl (by kernel_rfl) (fun h u hu => ld_u64 (.tmp 49) rfl (behind (u := .pointer (some ⟨g, 6, none⟩)) (by kernel_rfl) h) (held_cell hu p6)) ?_
  refine i_if (v := .pointer (some ⟨g, 8, none⟩)) (b := decide (c.least ≤ c.initial)) (pol := true) rfl rfl rfl rfl (by kernel_rfl) (fun h u hu => fa8 (.tmp 1) rfl (by kernel_rfl)) ?_
  refine i_if (v := .int .u64 c.most) (b := decide (c.least ≤ c.initial)) (pol := true) rfl rfl rfl rfl (by kernel_rfl) (fun h u hu => ld_u64 (.tmp 51) rfl (behind (u := .pointer (some ⟨g, 8, none⟩)) (by kernel_rfl) h) (held_cell hu p8)) ?_
  refine i_if (v := .bool (decide (c.initial ≤ c.most))) (b := decide (c.least ≤ c.initial)) (pol := true) rfl rfl rfl rfl (by kernel_rfl) (fun h u hu => leq_u64 (.tmp 50) (.tmp 52) rfl (behind (u := .int .u64 c.initial) (by kernel_rfl) h) (behind (u := .int .u64 c.most) (by kernel_rfl) h)) ?_
  refine i_free (v := .bool (decide (c.least ≤ c.initial) && decide (c.initial ≤ c.most))) rfl rfl (fun u hu => and_run (.tmp 48) (.tmp 53) rfl rfl (by kernel_rfl) (by kernel_rfl)) ?_
  refine i_free (v := .pointer (some ⟨g, 7, none⟩)) rfl rfl (fun u hu => fa7 (.tmp 1) rfl (by kernel_rfl)) ?_
  refine i_free (v := .int .u64 c.least) rfl rfl (fun u hu => ld_u64 (.tmp 55) rfl (by kernel_rfl) (held_cell hu p7)) ?_
  refine i_free (v := .pointer (some ⟨g, 5, none⟩)) rfl rfl (fun u hu => fa5 (.tmp 1) rfl (by kernel_rfl)) ?_
  refine i_free (v := .int .u64 c.mss) rfl rfl (fun u hu => ld_u64 (.tmp 57) rfl (by kernel_rfl) (held_cell hu p5)) ?_
  refine i_free (v := .pointer (some ⟨g, 8, none⟩)) rfl rfl (fun u hu => fa8 (.tmp 1) rfl (by kernel_rfl)) ?_
  refine i_free (v := .int .u64 c.most) rfl rfl (fun u hu => ld_u64 (.tmp 61) rfl (by kernel_rfl) (held_cell hu p8)) ?_
  refine i_free (v := .pointer (some ⟨g, 7, none⟩)) rfl rfl (fun u hu => fa7 (.tmp 1) rfl (by kernel_rfl)) ?_
  refine i_free (v := .int .u64 c.least) rfl rfl (fun u hu => ld_u64 (.tmp 63) rfl (by kernel_rfl) (held_cell hu p7)) ?_
  refine i_free (v := .bool (decide (c.least ≤ c.most))) rfl rfl (fun u hu => geq_u64 (.tmp 62) (.tmp 64) rfl (by kernel_rfl) (by kernel_rfl)) ?_
  refine i_free (v := .pointer (some ⟨g, 9, none⟩)) rfl rfl (fun u hu => fa9 (.tmp 1) rfl (by kernel_rfl)) ?_
  refine i_free (v := .int .i64 c.algo) rfl rfl (fun u hu => ld_i64 (.tmp 71) rfl (by kernel_rfl) (held_cell hu p9)) ?_
  refine i_free (v := .bool ((c.algo == 1))) rfl rfl (fun u hu => eql_i64 (.tmp 72) (.const (.int .i64 1)) rfl (by kernel_rfl) rfl) ?_
  refine i_free (v := .pointer (some ⟨g, 10, none⟩)) rfl rfl (fun u hu => fa10 (.tmp 1) rfl (by kernel_rfl)) ?_
  refine i_free (v := .int .u64 c.first) rfl rfl (fun u hu => ld_u64 (.tmp 79) rfl (by kernel_rfl) (held_cell hu p10)) ?_
  refine i_free (v := .bool (decide (1 ≤ c.first))) rfl rfl (fun u hu => geq_u64 (.tmp 80) (.const (.int .u64 1)) rfl (by kernel_rfl) rfl) ?_
  refine i_free (v := .pointer (some ⟨g, 11, none⟩)) rfl rfl (fun u hu => fa11 (.tmp 1) rfl (by kernel_rfl)) ?_
  refine i_free (v := .int .u64 c.grain) rfl rfl (fun u hu => ld_u64 (.tmp 87) rfl (by kernel_rfl) (held_cell hu p11)) ?_
  refine i_free (v := .bool (decide (1 ≤ c.grain))) rfl rfl (fun u hu => geq_u64 (.tmp 88) (.const (.int .u64 1)) rfl (by kernel_rfl) rfl) ?_
  refine i_free (v := .pointer (some ⟨g, 12, none⟩)) rfl rfl (fun u hu => fa12 (.tmp 1) rfl (by kernel_rfl)) ?_
  refine i_free (v := .int .u64 c.cap) rfl rfl (fun u hu => ld_u64 (.tmp 95) rfl (by kernel_rfl) (held_cell hu p12)) ?_
  refine i_free (v := .pointer (some ⟨g, 11, none⟩)) rfl rfl (fun u hu => fa11 (.tmp 1) rfl (by kernel_rfl)) ?_
  refine i_free (v := .int .u64 c.grain) rfl rfl (fun u hu => ld_u64 (.tmp 97) rfl (by kernel_rfl) (held_cell hu p11)) ?_
  refine i_free (v := .bool (decide (c.grain ≤ c.cap))) rfl rfl (fun u hu => geq_u64 (.tmp 96) (.tmp 98) rfl (by kernel_rfl) (by kernel_rfl)) ?_
  refine i_free (v := .pointer (some ⟨g, 13, none⟩)) rfl rfl (fun u hu => fa13 (.tmp 1) rfl (by kernel_rfl)) ?_
  refine i_free (v := .int .u64 c.burst) rfl rfl (fun u hu => ld_u64 (.tmp 105) rfl (by kernel_rfl) (held_cell hu p13)) ?_
  refine i_free (v := .pointer (some ⟨g, 5, none⟩)) rfl rfl (fun u hu => fa5 (.tmp 1) rfl (by kernel_rfl)) ?_
  refine i_free (v := .int .u64 c.mss) rfl rfl (fun u hu => ld_u64 (.tmp 107) rfl (by kernel_rfl) (held_cell hu p5)) ?_
  refine i_free (v := .bool (decide (c.mss ≤ c.burst))) rfl rfl (fun u hu => geq_u64 (.tmp 106) (.tmp 108) rfl (by kernel_rfl) (by kernel_rfl)) ?_
  refine i_free (v := .pointer (some ⟨g, 14, none⟩)) rfl rfl (fun u hu => fa14 (.tmp 1) rfl (by kernel_rfl)) ?_
  refine i_free (v := .int .u64 c.slowest) rfl rfl (fun u hu => ld_u64 (.tmp 115) rfl (by kernel_rfl) (held_cell hu p14)) ?_
  refine i_free (v := .bool (decide (1 ≤ c.slowest))) rfl rfl (fun u hu => geq_u64 (.tmp 116) (.const (.int .u64 1)) rfl (by kernel_rfl) rfl) ?_
  refine i_free (v := .pointer (some ⟨g, 15, none⟩)) rfl rfl (fun u hu => fa15 (.tmp 1) rfl (by kernel_rfl)) ?_
  refine i_free (v := .int .i64 c.chal) rfl rfl (fun u hu => ld_i64 (.tmp 123) rfl (by kernel_rfl) (held_cell hu p15)) ?_
  refine i_free (v := .bool (decide (0 ≤ c.chal))) rfl rfl (fun u hu => geq_i64 (.tmp 124) (.const (.int .i64 0)) rfl (by kernel_rfl) rfl) ?_
  refine i_free (v := .pointer (some ⟨g, 16, none⟩)) rfl rfl (fun u hu => fa16 (.tmp 1) rfl (by kernel_rfl)) ?_
  refine i_free (v := .int .u64 c.every) rfl rfl (fun u hu => ld_u64 (.tmp 131) rfl (by kernel_rfl) (held_cell hu p16)) ?_
  refine i_free (v := .bool (decide (1 ≤ c.every))) rfl rfl (fun u hu => geq_u64 (.tmp 132) (.const (.int .u64 1)) rfl (by kernel_rfl) rfl) ?_
  have hS1 : Below W.heap.size W (W.drew.alloc (.cells #[.bool false, .bool false, .bool false, .bool false, .bool false, .bool false, .bool false, .bool false, .bool false, .bool false, .bool false, .bool false, .bool false, .bool false, .bool false, .bool false, .bool false] 67)) := hS.alloc (Nat.le_refl _) _
  have hBz : (W.drew.alloc (.cells #[.bool false, .bool false, .bool false, .bool false, .bool false, .bool false, .bool false, .bool false, .bool false, .bool false, .bool false, .bool false, .bool false, .bool false, .bool false, .bool false, .bool false] 67)).heap[W.heap.size]? = some (.cells #[.bool false, .bool false, .bool false, .bool false, .bool false, .bool false, .bool false, .bool false, .bool false, .bool false, .bool false, .bool false, .bool false, .bool false, .bool false, .bool false, .bool false] 67) := Blk.new W.drew _ _
  have hS2 : Below W.heap.size W ((W.drew.alloc (.cells #[.bool false, .bool false, .bool false, .bool false, .bool false, .bool false, .bool false, .bool false, .bool false, .bool false, .bool false, .bool false, .bool false, .bool false, .bool false, .bool false, .bool false] 67)).setRow W.heap.size #[.bool (decide (1 ≤ c.bits) && decide (c.bits ≤ 64)), .bool (c.one != 1), .bool (decide (4 ≤ c.ring) && decide (c.ring ≤ 256)), .bool (decide (c.limit ≤ 4611686018427387903)), .bool (decide (1 ≤ c.room) && decide (c.room ≤ 65536)), .bool (decide (1 ≤ c.mss) && decide (c.mss ≤ 1500)), .bool (decide (c.least ≤ c.initial) && decide (c.initial ≤ c.most)), .bool (decide (Sat.mul 2 c.mss ≤ c.least)), .bool (decide (c.least ≤ c.most) && decide (c.most ≤ 1073741824)), .bool ((c.algo == 1) || (c.algo == 2)), .bool (decide (1 ≤ c.first) && decide (c.first ≤ 1099511627776)), .bool (decide (1 ≤ c.grain) && decide (c.grain ≤ 1099511627776)), .bool (decide (c.grain ≤ c.cap) && decide (c.cap ≤ 1099511627776)), .bool (decide (c.mss ≤ c.burst) && decide (c.burst ≤ 1073741824)), .bool (decide (1 ≤ c.slowest) && decide (c.slowest ≤ 4294967296)), .bool (decide (0 ≤ c.chal) && decide (c.chal ≤ 64)), .bool (decide (1 ≤ c.every) && decide (c.every ≤ 1099511627776))]) := below_setRow hS1 (Nat.le_refl _)
  have hBf : Blk ((W.drew.alloc (.cells #[.bool false, .bool false, .bool false, .bool false, .bool false, .bool false, .bool false, .bool false, .bool false, .bool false, .bool false, .bool false, .bool false, .bool false, .bool false, .bool false, .bool false] 67)).setRow W.heap.size #[.bool (decide (1 ≤ c.bits) && decide (c.bits ≤ 64)), .bool (c.one != 1), .bool (decide (4 ≤ c.ring) && decide (c.ring ≤ 256)), .bool (decide (c.limit ≤ 4611686018427387903)), .bool (decide (1 ≤ c.room) && decide (c.room ≤ 65536)), .bool (decide (1 ≤ c.mss) && decide (c.mss ≤ 1500)), .bool (decide (c.least ≤ c.initial) && decide (c.initial ≤ c.most)), .bool (decide (Sat.mul 2 c.mss ≤ c.least)), .bool (decide (c.least ≤ c.most) && decide (c.most ≤ 1073741824)), .bool ((c.algo == 1) || (c.algo == 2)), .bool (decide (1 ≤ c.first) && decide (c.first ≤ 1099511627776)), .bool (decide (1 ≤ c.grain) && decide (c.grain ≤ 1099511627776)), .bool (decide (c.grain ≤ c.cap) && decide (c.cap ≤ 1099511627776)), .bool (decide (c.mss ≤ c.burst) && decide (c.burst ≤ 1073741824)), .bool (decide (1 ≤ c.slowest) && decide (c.slowest ≤ 4294967296)), .bool (decide (0 ≤ c.chal) && decide (c.chal ≤ 64)), .bool (decide (1 ≤ c.every) && decide (c.every ≤ 1099511627776))]) W.heap.size #[.bool (decide (1 ≤ c.bits) && decide (c.bits ≤ 64)), .bool (c.one != 1), .bool (decide (4 ≤ c.ring) && decide (c.ring ≤ 256)), .bool (decide (c.limit ≤ 4611686018427387903)), .bool (decide (1 ≤ c.room) && decide (c.room ≤ 65536)), .bool (decide (1 ≤ c.mss) && decide (c.mss ≤ 1500)), .bool (decide (c.least ≤ c.initial) && decide (c.initial ≤ c.most)), .bool (decide (Sat.mul 2 c.mss ≤ c.least)), .bool (decide (c.least ≤ c.most) && decide (c.most ≤ 1073741824)), .bool ((c.algo == 1) || (c.algo == 2)), .bool (decide (1 ≤ c.first) && decide (c.first ≤ 1099511627776)), .bool (decide (1 ≤ c.grain) && decide (c.grain ≤ 1099511627776)), .bool (decide (c.grain ≤ c.cap) && decide (c.cap ≤ 1099511627776)), .bool (decide (c.mss ≤ c.burst) && decide (c.burst ≤ 1073741824)), .bool (decide (1 ≤ c.slowest) && decide (c.slowest ≤ 4294967296)), .bool (decide (0 ≤ c.chal) && decide (c.chal ≤ 64)), .bool (decide (1 ≤ c.every) && decide (c.every ≤ 1099511627776))] 67 := setRow_heap _ _ _ _ _ _ hBz
  refine held_two (i := 54) (j := 135) (by kernel_rfl) ?_ ?_
  · refine op_call (f := 42) (args := #[.int .u64 2, .int .u64 c.mss]) rfl (by kernel_rfl) (call_mul (.const (.int .u64 2)) (.tmp 58) _ rfl rfl rfl (by kernel_rfl)) ((hmul _).mono ?_)
    rintro e w' ⟨rfl, rfl⟩
    refine ⟨_, rfl, hS, ?_⟩
    refine held_take (i := 55) (v := .bool (decide (Sat.mul 2 c.mss ≤ c.least))) rfl (by kernel_rfl) (by kernel_rfl) (by kernel_rfl) (fun _ _ _ h => h) (by kernel_rfl) hS (fun u hu => geq_u64 (.tmp 56) (.tmp 59) rfl (by kernel_rfl) (by kernel_rfl)) ?_
    refine held_many (fuel := 3) (by kernel_rfl) (by kernel_rfl) (fun _ _ d _ _ h => by cases d <;> exact h) hS [61, 62, 63, 64, 65, 69, 70, 71, 72, 73, 77, 78, 79, 80, 81, 85, 86, 87, 88, 89, 95, 96, 97, 98, 99, 105, 106, 107, 108, 109, 113, 114, 115, 116, 117, 121, 122, 123, 124, 125, 129, 130, 131, 132, 133] _ _ (by kernel_rfl) ?_
    refine i_free (v := .bool (decide (c.least ≤ c.most))) rfl rfl (fun u hu => move_run (.tmp 65) rfl (by kernel_rfl)) ?_
    refine i_if (v := .pointer (some ⟨g, 8, none⟩)) (b := decide (c.least ≤ c.most)) (pol := true) rfl rfl rfl rfl (by kernel_rfl) (fun h u hu => fa8 (.tmp 1) rfl (by kernel_rfl)) ?_
    refine i_if (v := .int .u64 c.most) (b := decide (c.least ≤ c.most)) (pol := true) rfl rfl rfl rfl (by kernel_rfl) (fun h u hu => ld_u64 (.tmp 67) rfl (behind (u := .pointer (some ⟨g, 8, none⟩)) (by kernel_rfl) h) (held_cell hu p8)) ?_
    refine i_if (v := .bool (decide (c.most ≤ 1073741824))) (b := decide (c.least ≤ c.most)) (pol := true) rfl rfl rfl rfl (by kernel_rfl) (fun h u hu => leq_u64 (.tmp 68) (.const (.int .u64 1073741824)) rfl (behind (u := .int .u64 c.most) (by kernel_rfl) h) rfl) ?_
    refine i_free (v := .bool (decide (c.least ≤ c.most) && decide (c.most ≤ 1073741824))) rfl rfl (fun u hu => and_run (.tmp 66) (.tmp 69) rfl rfl (by kernel_rfl) (by kernel_rfl)) ?_
    refine i_free (v := .bool ((c.algo == 1))) rfl rfl (fun u hu => move_run (.tmp 73) rfl (by kernel_rfl)) ?_
    refine i_if (v := .pointer (some ⟨g, 9, none⟩)) (b := (c.algo == 1)) (pol := false) rfl rfl rfl rfl (by kernel_rfl) (fun h u hu => fa9 (.tmp 1) rfl (by kernel_rfl)) ?_
    refine i_if (v := .int .i64 c.algo) (b := (c.algo == 1)) (pol := false) rfl rfl rfl rfl (by kernel_rfl) (fun h u hu => ld_i64 (.tmp 75) rfl (behind (u := .pointer (some ⟨g, 9, none⟩)) (by kernel_rfl) h) (held_cell hu p9)) ?_
    refine i_if (v := .bool ((c.algo == 2))) (b := (c.algo == 1)) (pol := false) rfl rfl rfl rfl (by kernel_rfl) (fun h u hu => eql_i64 (.tmp 76) (.const (.int .i64 2)) rfl (behind (u := .int .i64 c.algo) (by kernel_rfl) h) rfl) ?_
    refine i_free (v := .bool ((c.algo == 1) || (c.algo == 2))) rfl rfl (fun u hu => or_run (.tmp 74) (.tmp 77) rfl rfl (by kernel_rfl) (by kernel_rfl)) ?_
    refine i_free (v := .bool (decide (1 ≤ c.first))) rfl rfl (fun u hu => move_run (.tmp 81) rfl (by kernel_rfl)) ?_
    refine i_if (v := .pointer (some ⟨g, 10, none⟩)) (b := decide (1 ≤ c.first)) (pol := true) rfl rfl rfl rfl (by kernel_rfl) (fun h u hu => fa10 (.tmp 1) rfl (by kernel_rfl)) ?_
    refine i_if (v := .int .u64 c.first) (b := decide (1 ≤ c.first)) (pol := true) rfl rfl rfl rfl (by kernel_rfl) (fun h u hu => ld_u64 (.tmp 83) rfl (behind (u := .pointer (some ⟨g, 10, none⟩)) (by kernel_rfl) h) (held_cell hu p10)) ?_
    refine i_if (v := .bool (decide (c.first ≤ 1099511627776))) (b := decide (1 ≤ c.first)) (pol := true) rfl rfl rfl rfl (by kernel_rfl) (fun h u hu => leq_u64 (.tmp 84) (.const (.int .u64 1099511627776)) rfl (behind (u := .int .u64 c.first) (by kernel_rfl) h) rfl) ?_
    refine i_free (v := .bool (decide (1 ≤ c.first) && decide (c.first ≤ 1099511627776))) rfl rfl (fun u hu => and_run (.tmp 82) (.tmp 85) rfl rfl (by kernel_rfl) (by kernel_rfl)) ?_
    refine i_free (v := .bool (decide (1 ≤ c.grain))) rfl rfl (fun u hu => move_run (.tmp 89) rfl (by kernel_rfl)) ?_
    refine i_if (v := .pointer (some ⟨g, 11, none⟩)) (b := decide (1 ≤ c.grain)) (pol := true) rfl rfl rfl rfl (by kernel_rfl) (fun h u hu => fa11 (.tmp 1) rfl (by kernel_rfl)) ?_
    refine i_if (v := .int .u64 c.grain) (b := decide (1 ≤ c.grain)) (pol := true) rfl rfl rfl rfl (by kernel_rfl) (fun h u hu => ld_u64 (.tmp 91) rfl (behind (u := .pointer (some ⟨g, 11, none⟩)) (by kernel_rfl) h) (held_cell hu p11)) ?_
    refine i_if (v := .bool (decide (c.grain ≤ 1099511627776))) (b := decide (1 ≤ c.grain)) (pol := true) rfl rfl rfl rfl (by kernel_rfl) (fun h u hu => leq_u64 (.tmp 92) (.const (.int .u64 1099511627776)) rfl (behind (u := .int .u64 c.grain) (by kernel_rfl) h) rfl) ?_
    refine i_free (v := .bool (decide (1 ≤ c.grain) && decide (c.grain ≤ 1099511627776))) rfl rfl (fun u hu => and_run (.tmp 90) (.tmp 93) rfl rfl (by kernel_rfl) (by kernel_rfl)) ?_
    refine i_free (v := .bool (decide (c.grain ≤ c.cap))) rfl rfl (fun u hu => move_run (.tmp 99) rfl (by kernel_rfl)) ?_
    refine i_if (v := .pointer (some ⟨g, 12, none⟩)) (b := decide (c.grain ≤ c.cap)) (pol := true) rfl rfl rfl rfl (by kernel_rfl) (fun h u hu => fa12 (.tmp 1) rfl (by kernel_rfl)) ?_
    refine i_if (v := .int .u64 c.cap) (b := decide (c.grain ≤ c.cap)) (pol := true) rfl rfl rfl rfl (by kernel_rfl) (fun h u hu => ld_u64 (.tmp 101) rfl (behind (u := .pointer (some ⟨g, 12, none⟩)) (by kernel_rfl) h) (held_cell hu p12)) ?_
    refine i_if (v := .bool (decide (c.cap ≤ 1099511627776))) (b := decide (c.grain ≤ c.cap)) (pol := true) rfl rfl rfl rfl (by kernel_rfl) (fun h u hu => leq_u64 (.tmp 102) (.const (.int .u64 1099511627776)) rfl (behind (u := .int .u64 c.cap) (by kernel_rfl) h) rfl) ?_
    refine i_free (v := .bool (decide (c.grain ≤ c.cap) && decide (c.cap ≤ 1099511627776))) rfl rfl (fun u hu => and_run (.tmp 100) (.tmp 103) rfl rfl (by kernel_rfl) (by kernel_rfl)) ?_
    refine i_free (v := .bool (decide (c.mss ≤ c.burst))) rfl rfl (fun u hu => move_run (.tmp 109) rfl (by kernel_rfl)) ?_
    refine i_if (v := .pointer (some ⟨g, 13, none⟩)) (b := decide (c.mss ≤ c.burst)) (pol := true) rfl rfl rfl rfl (by kernel_rfl) (fun h u hu => fa13 (.tmp 1) rfl (by kernel_rfl)) ?_
    refine i_if (v := .int .u64 c.burst) (b := decide (c.mss ≤ c.burst)) (pol := true) rfl rfl rfl rfl (by kernel_rfl) (fun h u hu => ld_u64 (.tmp 111) rfl (behind (u := .pointer (some ⟨g, 13, none⟩)) (by kernel_rfl) h) (held_cell hu p13)) ?_
    refine i_if (v := .bool (decide (c.burst ≤ 1073741824))) (b := decide (c.mss ≤ c.burst)) (pol := true) rfl rfl rfl rfl (by kernel_rfl) (fun h u hu => leq_u64 (.tmp 112) (.const (.int .u64 1073741824)) rfl (behind (u := .int .u64 c.burst) (by kernel_rfl) h) rfl) ?_
    refine i_free (v := .bool (decide (c.mss ≤ c.burst) && decide (c.burst ≤ 1073741824))) rfl rfl (fun u hu => and_run (.tmp 110) (.tmp 113) rfl rfl (by kernel_rfl) (by kernel_rfl)) ?_
    refine i_free (v := .bool (decide (1 ≤ c.slowest))) rfl rfl (fun u hu => move_run (.tmp 117) rfl (by kernel_rfl)) ?_
    refine i_if (v := .pointer (some ⟨g, 14, none⟩)) (b := decide (1 ≤ c.slowest)) (pol := true) rfl rfl rfl rfl (by kernel_rfl) (fun h u hu => fa14 (.tmp 1) rfl (by kernel_rfl)) ?_
    refine i_if (v := .int .u64 c.slowest) (b := decide (1 ≤ c.slowest)) (pol := true) rfl rfl rfl rfl (by kernel_rfl) (fun h u hu => ld_u64 (.tmp 119) rfl (behind (u := .pointer (some ⟨g, 14, none⟩)) (by kernel_rfl) h) (held_cell hu p14)) ?_
    refine i_if (v := .bool (decide (c.slowest ≤ 4294967296))) (b := decide (1 ≤ c.slowest)) (pol := true) rfl rfl rfl rfl (by kernel_rfl) (fun h u hu => leq_u64 (.tmp 120) (.const (.int .u64 4294967296)) rfl (behind (u := .int .u64 c.slowest) (by kernel_rfl) h) rfl) ?_
    refine i_free (v := .bool (decide (1 ≤ c.slowest) && decide (c.slowest ≤ 4294967296))) rfl rfl (fun u hu => and_run (.tmp 118) (.tmp 121) rfl rfl (by kernel_rfl) (by kernel_rfl)) ?_
    refine i_free (v := .bool (decide (0 ≤ c.chal))) rfl rfl (fun u hu => move_run (.tmp 125) rfl (by kernel_rfl)) ?_
    refine i_if (v := .pointer (some ⟨g, 15, none⟩)) (b := decide (0 ≤ c.chal)) (pol := true) rfl rfl rfl rfl (by kernel_rfl) (fun h u hu => fa15 (.tmp 1) rfl (by kernel_rfl)) ?_
    refine i_if (v := .int .i64 c.chal) (b := decide (0 ≤ c.chal)) (pol := true) rfl rfl rfl rfl (by kernel_rfl) (fun h u hu => ld_i64 (.tmp 127) rfl (behind (u := .pointer (some ⟨g, 15, none⟩)) (by kernel_rfl) h) (held_cell hu p15)) ?_
    refine i_if (v := .bool (decide (c.chal ≤ 64))) (b := decide (0 ≤ c.chal)) (pol := true) rfl rfl rfl rfl (by kernel_rfl) (fun h u hu => leq_i64 (.tmp 128) (.const (.int .i64 64)) rfl (behind (u := .int .i64 c.chal) (by kernel_rfl) h) rfl) ?_
    refine i_free (v := .bool (decide (0 ≤ c.chal) && decide (c.chal ≤ 64))) rfl rfl (fun u hu => and_run (.tmp 126) (.tmp 129) rfl rfl (by kernel_rfl) (by kernel_rfl)) ?_
    refine i_free (v := .bool (decide (1 ≤ c.every))) rfl rfl (fun u hu => move_run (.tmp 133) rfl (by kernel_rfl)) ?_
    refine i_if (v := .pointer (some ⟨g, 16, none⟩)) (b := decide (1 ≤ c.every)) (pol := true) rfl rfl rfl rfl (by kernel_rfl) (fun h u hu => fa16 (.tmp 1) rfl (by kernel_rfl)) ?_
    refine i_if (v := .int .u64 c.every) (b := decide (1 ≤ c.every)) (pol := true) rfl rfl rfl rfl (by kernel_rfl) (fun h u hu => ld_u64 (.tmp 135) rfl (behind (u := .pointer (some ⟨g, 16, none⟩)) (by kernel_rfl) h) (held_cell hu p16)) ?_
    refine i_if (v := .bool (decide (c.every ≤ 1099511627776))) (b := decide (1 ≤ c.every)) (pol := true) rfl rfl rfl rfl (by kernel_rfl) (fun h u hu => leq_u64 (.tmp 136) (.const (.int .u64 1099511627776)) rfl (behind (u := .int .u64 c.every) (by kernel_rfl) h) rfl) ?_
    refine i_free (v := .bool (decide (1 ≤ c.every) && decide (c.every ≤ 1099511627776))) rfl rfl (fun u hu => and_run (.tmp 134) (.tmp 137) rfl rfl (by kernel_rfl) (by kernel_rfl)) ?_
    refine held_take (i := 134) (v := .agg #[.bool (decide (1 ≤ c.bits) && decide (c.bits ≤ 64)), .bool (c.one != 1), .bool (decide (4 ≤ c.ring) && decide (c.ring ≤ 256)), .bool (decide (c.limit ≤ 4611686018427387903)), .bool (decide (1 ≤ c.room) && decide (c.room ≤ 65536)), .bool (decide (1 ≤ c.mss) && decide (c.mss ≤ 1500)), .bool (decide (c.least ≤ c.initial) && decide (c.initial ≤ c.most)), .bool (decide (Sat.mul 2 c.mss ≤ c.least)), .bool (decide (c.least ≤ c.most) && decide (c.most ≤ 1073741824)), .bool ((c.algo == 1) || (c.algo == 2)), .bool (decide (1 ≤ c.first) && decide (c.first ≤ 1099511627776)), .bool (decide (1 ≤ c.grain) && decide (c.grain ≤ 1099511627776)), .bool (decide (c.grain ≤ c.cap) && decide (c.cap ≤ 1099511627776)), .bool (decide (c.mss ≤ c.burst) && decide (c.burst ≤ 1073741824)), .bool (decide (1 ≤ c.slowest) && decide (c.slowest ≤ 4294967296)), .bool (decide (0 ≤ c.chal) && decide (c.chal ≤ 64)), .bool (decide (1 ≤ c.every) && decide (c.every ≤ 1099511627776))]) rfl (by kernel_rfl) (by kernel_rfl) (by kernel_rfl) (fun _ _ _ h => h) (by kernel_rfl) hS (fun u hu => by kernel_rfl) ?_
    refine held_one (i := 135) (v := .pointer (some ⟨W.heap.size, 0, none⟩)) (w' := W.drew.alloc (.cells #[.bool false, .bool false, .bool false, .bool false, .bool false, .bool false, .bool false, .bool false, .bool false, .bool false, .bool false, .bool false, .bool false, .bool false, .bool false, .bool false, .bool false] 67)) rfl (by kernel_rfl) (by kernel_rfl) (by rfl) hS1 ?_
    refine held_row (i := 136) (g := W.heap.size) (cells := #[.bool (decide (1 ≤ c.bits) && decide (c.bits ≤ 64)), .bool (c.one != 1), .bool (decide (4 ≤ c.ring) && decide (c.ring ≤ 256)), .bool (decide (c.limit ≤ 4611686018427387903)), .bool (decide (1 ≤ c.room) && decide (c.room ≤ 65536)), .bool (decide (1 ≤ c.mss) && decide (c.mss ≤ 1500)), .bool (decide (c.least ≤ c.initial) && decide (c.initial ≤ c.most)), .bool (decide (Sat.mul 2 c.mss ≤ c.least)), .bool (decide (c.least ≤ c.most) && decide (c.most ≤ 1073741824)), .bool ((c.algo == 1) || (c.algo == 2)), .bool (decide (1 ≤ c.first) && decide (c.first ≤ 1099511627776)), .bool (decide (1 ≤ c.grain) && decide (c.grain ≤ 1099511627776)), .bool (decide (c.grain ≤ c.cap) && decide (c.cap ≤ 1099511627776)), .bool (decide (c.mss ≤ c.burst) && decide (c.burst ≤ 1073741824)), .bool (decide (1 ≤ c.slowest) && decide (c.slowest ≤ 4294967296)), .bool (decide (0 ≤ c.chal) && decide (c.chal ≤ 64)), .bool (decide (1 ≤ c.every) && decide (c.every ≤ 1099511627776))]) rfl (by kernel_rfl) (by kernel_rfl) rfl (by kernel_rfl) (by kernel_rfl) hBz (by kernel_rfl) rfl (by kernel_rfl) hS2 ?_
    refine held_done_as (a' := ⟨#[.agg #[.int .i64 c.bits, .int .u64 c.one, .int .i64 c.ring, .int .u64 c.limit, .int .i64 c.room, .int .u64 c.mss, .int .u64 c.initial, .int .u64 c.least, .int .u64 c.most, .int .i64 c.algo, .int .u64 c.first, .int .u64 c.grain, .int .u64 c.cap, .int .u64 c.burst, .int .u64 c.slowest, .int .i64 c.chal, .int .u64 c.every], .pointer (some ⟨g, 0, none⟩), .int .i64 0, .pointer (some ⟨W.heap.size, 0, none⟩), undef, .pointer (some ⟨g, 0, none⟩), .int .i64 c.bits, .bool (decide (1 ≤ c.bits)), .bool (decide (1 ≤ c.bits)), (if (decide (1 ≤ c.bits)) = true then (.pointer (some ⟨g, 0, none⟩) : Value) else undef), (if (decide (1 ≤ c.bits)) = true then (.int .i64 c.bits : Value) else undef), (if (decide (1 ≤ c.bits)) = true then (.bool (decide (c.bits ≤ 64)) : Value) else undef), .bool (decide (1 ≤ c.bits) && decide (c.bits ≤ 64)), .pointer (some ⟨g, 1, none⟩), .int .u64 c.one, .bool ((c.one != 1)), .pointer (some ⟨g, 2, none⟩), .int .i64 c.ring, .bool (decide (4 ≤ c.ring)), .bool (decide (4 ≤ c.ring)), (if (decide (4 ≤ c.ring)) = true then (.pointer (some ⟨g, 2, none⟩) : Value) else undef), (if (decide (4 ≤ c.ring)) = true then (.int .i64 c.ring : Value) else undef), (if (decide (4 ≤ c.ring)) = true then (.bool (decide (c.ring ≤ 256)) : Value) else undef), .bool (decide (4 ≤ c.ring) && decide (c.ring ≤ 256)), .pointer (some ⟨g, 3, none⟩), .int .u64 c.limit, .bool (decide (c.limit ≤ 4611686018427387903)), .pointer (some ⟨g, 4, none⟩), .int .i64 c.room, .bool (decide (1 ≤ c.room)), .bool (decide (1 ≤ c.room)), (if (decide (1 ≤ c.room)) = true then (.pointer (some ⟨g, 4, none⟩) : Value) else undef), (if (decide (1 ≤ c.room)) = true then (.int .i64 c.room : Value) else undef), (if (decide (1 ≤ c.room)) = true then (.bool (decide (c.room ≤ 65536)) : Value) else undef), .bool (decide (1 ≤ c.room) && decide (c.room ≤ 65536)), .pointer (some ⟨g, 5, none⟩), .int .u64 c.mss, .bool (decide (1 ≤ c.mss)), .bool (decide (1 ≤ c.mss)), (if (decide (1 ≤ c.mss)) = true then (.pointer (some ⟨g, 5, none⟩) : Value) else undef), (if (decide (1 ≤ c.mss)) = true then (.int .u64 c.mss : Value) else undef), (if (decide (1 ≤ c.mss)) = true then (.bool (decide (c.mss ≤ 1500)) : Value) else undef), .bool (decide (1 ≤ c.mss) && decide (c.mss ≤ 1500)), .pointer (some ⟨g, 6, none⟩), .int .u64 c.initial, .pointer (some ⟨g, 7, none⟩), .int .u64 c.least, .bool (decide (c.least ≤ c.initial)), .bool (decide (c.least ≤ c.initial)), (if (decide (c.least ≤ c.initial)) = true then (.pointer (some ⟨g, 6, none⟩) : Value) else undef), (if (decide (c.least ≤ c.initial)) = true then (.int .u64 c.initial : Value) else undef), (if (decide (c.least ≤ c.initial)) = true then (.pointer (some ⟨g, 8, none⟩) : Value) else undef), (if (decide (c.least ≤ c.initial)) = true then (.int .u64 c.most : Value) else undef), (if (decide (c.least ≤ c.initial)) = true then (.bool (decide (c.initial ≤ c.most)) : Value) else undef), .bool (decide (c.least ≤ c.initial) && decide (c.initial ≤ c.most)), .pointer (some ⟨g, 7, none⟩), .int .u64 c.least, .pointer (some ⟨g, 5, none⟩), .int .u64 c.mss, .int .u64 (Sat.mul 2 c.mss), .bool (decide (Sat.mul 2 c.mss ≤ c.least)), .pointer (some ⟨g, 8, none⟩), .int .u64 c.most, .pointer (some ⟨g, 7, none⟩), .int .u64 c.least, .bool (decide (c.least ≤ c.most)), .bool (decide (c.least ≤ c.most)), (if (decide (c.least ≤ c.most)) = true then (.pointer (some ⟨g, 8, none⟩) : Value) else undef), (if (decide (c.least ≤ c.most)) = true then (.int .u64 c.most : Value) else undef), (if (decide (c.least ≤ c.most)) = true then (.bool (decide (c.most ≤ 1073741824)) : Value) else undef), .bool (decide (c.least ≤ c.most) && decide (c.most ≤ 1073741824)), .pointer (some ⟨g, 9, none⟩), .int .i64 c.algo, .bool ((c.algo == 1)), .bool ((c.algo == 1)), (if ((c.algo == 1)) = false then (.pointer (some ⟨g, 9, none⟩) : Value) else undef), (if ((c.algo == 1)) = false then (.int .i64 c.algo : Value) else undef), (if ((c.algo == 1)) = false then (.bool ((c.algo == 2)) : Value) else undef), .bool ((c.algo == 1) || (c.algo == 2)), .pointer (some ⟨g, 10, none⟩), .int .u64 c.first, .bool (decide (1 ≤ c.first)), .bool (decide (1 ≤ c.first)), (if (decide (1 ≤ c.first)) = true then (.pointer (some ⟨g, 10, none⟩) : Value) else undef), (if (decide (1 ≤ c.first)) = true then (.int .u64 c.first : Value) else undef), (if (decide (1 ≤ c.first)) = true then (.bool (decide (c.first ≤ 1099511627776)) : Value) else undef), .bool (decide (1 ≤ c.first) && decide (c.first ≤ 1099511627776)), .pointer (some ⟨g, 11, none⟩), .int .u64 c.grain, .bool (decide (1 ≤ c.grain)), .bool (decide (1 ≤ c.grain)), (if (decide (1 ≤ c.grain)) = true then (.pointer (some ⟨g, 11, none⟩) : Value) else undef), (if (decide (1 ≤ c.grain)) = true then (.int .u64 c.grain : Value) else undef), (if (decide (1 ≤ c.grain)) = true then (.bool (decide (c.grain ≤ 1099511627776)) : Value) else undef), .bool (decide (1 ≤ c.grain) && decide (c.grain ≤ 1099511627776)), .pointer (some ⟨g, 12, none⟩), .int .u64 c.cap, .pointer (some ⟨g, 11, none⟩), .int .u64 c.grain, .bool (decide (c.grain ≤ c.cap)), .bool (decide (c.grain ≤ c.cap)), (if (decide (c.grain ≤ c.cap)) = true then (.pointer (some ⟨g, 12, none⟩) : Value) else undef), (if (decide (c.grain ≤ c.cap)) = true then (.int .u64 c.cap : Value) else undef), (if (decide (c.grain ≤ c.cap)) = true then (.bool (decide (c.cap ≤ 1099511627776)) : Value) else undef), .bool (decide (c.grain ≤ c.cap) && decide (c.cap ≤ 1099511627776)), .pointer (some ⟨g, 13, none⟩), .int .u64 c.burst, .pointer (some ⟨g, 5, none⟩), .int .u64 c.mss, .bool (decide (c.mss ≤ c.burst)), .bool (decide (c.mss ≤ c.burst)), (if (decide (c.mss ≤ c.burst)) = true then (.pointer (some ⟨g, 13, none⟩) : Value) else undef), (if (decide (c.mss ≤ c.burst)) = true then (.int .u64 c.burst : Value) else undef), (if (decide (c.mss ≤ c.burst)) = true then (.bool (decide (c.burst ≤ 1073741824)) : Value) else undef), .bool (decide (c.mss ≤ c.burst) && decide (c.burst ≤ 1073741824)), .pointer (some ⟨g, 14, none⟩), .int .u64 c.slowest, .bool (decide (1 ≤ c.slowest)), .bool (decide (1 ≤ c.slowest)), (if (decide (1 ≤ c.slowest)) = true then (.pointer (some ⟨g, 14, none⟩) : Value) else undef), (if (decide (1 ≤ c.slowest)) = true then (.int .u64 c.slowest : Value) else undef), (if (decide (1 ≤ c.slowest)) = true then (.bool (decide (c.slowest ≤ 4294967296)) : Value) else undef), .bool (decide (1 ≤ c.slowest) && decide (c.slowest ≤ 4294967296)), .pointer (some ⟨g, 15, none⟩), .int .i64 c.chal, .bool (decide (0 ≤ c.chal)), .bool (decide (0 ≤ c.chal)), (if (decide (0 ≤ c.chal)) = true then (.pointer (some ⟨g, 15, none⟩) : Value) else undef), (if (decide (0 ≤ c.chal)) = true then (.int .i64 c.chal : Value) else undef), (if (decide (0 ≤ c.chal)) = true then (.bool (decide (c.chal ≤ 64)) : Value) else undef), .bool (decide (0 ≤ c.chal) && decide (c.chal ≤ 64)), .pointer (some ⟨g, 16, none⟩), .int .u64 c.every, .bool (decide (1 ≤ c.every)), .bool (decide (1 ≤ c.every)), (if (decide (1 ≤ c.every)) = true then (.pointer (some ⟨g, 16, none⟩) : Value) else undef), (if (decide (1 ≤ c.every)) = true then (.int .u64 c.every : Value) else undef), (if (decide (1 ≤ c.every)) = true then (.bool (decide (c.every ≤ 1099511627776)) : Value) else undef), .bool (decide (1 ≤ c.every) && decide (c.every ≤ 1099511627776)), .agg #[.bool (decide (1 ≤ c.bits) && decide (c.bits ≤ 64)), .bool (c.one != 1), .bool (decide (4 ≤ c.ring) && decide (c.ring ≤ 256)), .bool (decide (c.limit ≤ 4611686018427387903)), .bool (decide (1 ≤ c.room) && decide (c.room ≤ 65536)), .bool (decide (1 ≤ c.mss) && decide (c.mss ≤ 1500)), .bool (decide (c.least ≤ c.initial) && decide (c.initial ≤ c.most)), .bool (decide (Sat.mul 2 c.mss ≤ c.least)), .bool (decide (c.least ≤ c.most) && decide (c.most ≤ 1073741824)), .bool ((c.algo == 1) || (c.algo == 2)), .bool (decide (1 ≤ c.first) && decide (c.first ≤ 1099511627776)), .bool (decide (1 ≤ c.grain) && decide (c.grain ≤ 1099511627776)), .bool (decide (c.grain ≤ c.cap) && decide (c.cap ≤ 1099511627776)), .bool (decide (c.mss ≤ c.burst) && decide (c.burst ≤ 1073741824)), .bool (decide (1 ≤ c.slowest) && decide (c.slowest ≤ 4294967296)), .bool (decide (0 ≤ c.chal) && decide (c.chal ≤ 64)), .bool (decide (1 ≤ c.every) && decide (c.every ≤ 1099511627776))], undef, undef, undef, undef, undef, undef, undef, undef, undef, undef], []⟩) (by kernel_rfl) (by kernel_rfl) ?_
    generalize (if (decide (1 ≤ c.bits)) = true then (.pointer (some ⟨g, 0, none⟩) : Value) else undef) = u9
    generalize (if (decide (1 ≤ c.bits)) = true then (.int .i64 c.bits : Value) else undef) = u10
    generalize (if (decide (1 ≤ c.bits)) = true then (.bool (decide (c.bits ≤ 64)) : Value) else undef) = u11
    generalize (if (decide (4 ≤ c.ring)) = true then (.pointer (some ⟨g, 2, none⟩) : Value) else undef) = u20
    generalize (if (decide (4 ≤ c.ring)) = true then (.int .i64 c.ring : Value) else undef) = u21
    generalize (if (decide (4 ≤ c.ring)) = true then (.bool (decide (c.ring ≤ 256)) : Value) else undef) = u22
    generalize (if (decide (1 ≤ c.room)) = true then (.pointer (some ⟨g, 4, none⟩) : Value) else undef) = u31
    generalize (if (decide (1 ≤ c.room)) = true then (.int .i64 c.room : Value) else undef) = u32
    generalize (if (decide (1 ≤ c.room)) = true then (.bool (decide (c.room ≤ 65536)) : Value) else undef) = u33
    generalize (if (decide (1 ≤ c.mss)) = true then (.pointer (some ⟨g, 5, none⟩) : Value) else undef) = u39
    generalize (if (decide (1 ≤ c.mss)) = true then (.int .u64 c.mss : Value) else undef) = u40
    generalize (if (decide (1 ≤ c.mss)) = true then (.bool (decide (c.mss ≤ 1500)) : Value) else undef) = u41
    generalize (if (decide (c.least ≤ c.initial)) = true then (.pointer (some ⟨g, 6, none⟩) : Value) else undef) = u49
    generalize (if (decide (c.least ≤ c.initial)) = true then (.int .u64 c.initial : Value) else undef) = u50
    generalize (if (decide (c.least ≤ c.initial)) = true then (.pointer (some ⟨g, 8, none⟩) : Value) else undef) = u51
    generalize (if (decide (c.least ≤ c.initial)) = true then (.int .u64 c.most : Value) else undef) = u52
    generalize (if (decide (c.least ≤ c.initial)) = true then (.bool (decide (c.initial ≤ c.most)) : Value) else undef) = u53
    generalize (if (decide (c.least ≤ c.most)) = true then (.pointer (some ⟨g, 8, none⟩) : Value) else undef) = u67
    generalize (if (decide (c.least ≤ c.most)) = true then (.int .u64 c.most : Value) else undef) = u68
    generalize (if (decide (c.least ≤ c.most)) = true then (.bool (decide (c.most ≤ 1073741824)) : Value) else undef) = u69
    generalize (if ((c.algo == 1)) = false then (.pointer (some ⟨g, 9, none⟩) : Value) else undef) = u75
    generalize (if ((c.algo == 1)) = false then (.int .i64 c.algo : Value) else undef) = u76
    generalize (if ((c.algo == 1)) = false then (.bool ((c.algo == 2)) : Value) else undef) = u77
    generalize (if (decide (1 ≤ c.first)) = true then (.pointer (some ⟨g, 10, none⟩) : Value) else undef) = u83
    generalize (if (decide (1 ≤ c.first)) = true then (.int .u64 c.first : Value) else undef) = u84
    generalize (if (decide (1 ≤ c.first)) = true then (.bool (decide (c.first ≤ 1099511627776)) : Value) else undef) = u85
    generalize (if (decide (1 ≤ c.grain)) = true then (.pointer (some ⟨g, 11, none⟩) : Value) else undef) = u91
    generalize (if (decide (1 ≤ c.grain)) = true then (.int .u64 c.grain : Value) else undef) = u92
    generalize (if (decide (1 ≤ c.grain)) = true then (.bool (decide (c.grain ≤ 1099511627776)) : Value) else undef) = u93
    generalize (if (decide (c.grain ≤ c.cap)) = true then (.pointer (some ⟨g, 12, none⟩) : Value) else undef) = u101
    generalize (if (decide (c.grain ≤ c.cap)) = true then (.int .u64 c.cap : Value) else undef) = u102
    generalize (if (decide (c.grain ≤ c.cap)) = true then (.bool (decide (c.cap ≤ 1099511627776)) : Value) else undef) = u103
    generalize (if (decide (c.mss ≤ c.burst)) = true then (.pointer (some ⟨g, 13, none⟩) : Value) else undef) = u111
    generalize (if (decide (c.mss ≤ c.burst)) = true then (.int .u64 c.burst : Value) else undef) = u112
    generalize (if (decide (c.mss ≤ c.burst)) = true then (.bool (decide (c.burst ≤ 1073741824)) : Value) else undef) = u113
    generalize (if (decide (1 ≤ c.slowest)) = true then (.pointer (some ⟨g, 14, none⟩) : Value) else undef) = u119
    generalize (if (decide (1 ≤ c.slowest)) = true then (.int .u64 c.slowest : Value) else undef) = u120
    generalize (if (decide (1 ≤ c.slowest)) = true then (.bool (decide (c.slowest ≤ 4294967296)) : Value) else undef) = u121
    generalize (if (decide (0 ≤ c.chal)) = true then (.pointer (some ⟨g, 15, none⟩) : Value) else undef) = u127
    generalize (if (decide (0 ≤ c.chal)) = true then (.int .i64 c.chal : Value) else undef) = u128
    generalize (if (decide (0 ≤ c.chal)) = true then (.bool (decide (c.chal ≤ 64)) : Value) else undef) = u129
    generalize (if (decide (1 ≤ c.every)) = true then (.pointer (some ⟨g, 16, none⟩) : Value) else undef) = u135
    generalize (if (decide (1 ≤ c.every)) = true then (.int .u64 c.every : Value) else undef) = u136
    generalize (if (decide (1 ≤ c.every)) = true then (.bool (decide (c.every ≤ 1099511627776)) : Value) else undef) = u137
    generalize (W.drew.alloc (.cells #[.bool false, .bool false, .bool false, .bool false, .bool false, .bool false, .bool false, .bool false, .bool false, .bool false, .bool false, .bool false, .bool false, .bool false, .bool false, .bool false, .bool false] 67)).setRow W.heap.size #[.bool (decide (1 ≤ c.bits) && decide (c.bits ≤ 64)), .bool (c.one != 1), .bool (decide (4 ≤ c.ring) && decide (c.ring ≤ 256)), .bool (decide (c.limit ≤ 4611686018427387903)), .bool (decide (1 ≤ c.room) && decide (c.room ≤ 65536)), .bool (decide (1 ≤ c.mss) && decide (c.mss ≤ 1500)), .bool (decide (c.least ≤ c.initial) && decide (c.initial ≤ c.most)), .bool (decide (Sat.mul 2 c.mss ≤ c.least)), .bool (decide (c.least ≤ c.most) && decide (c.most ≤ 1073741824)), .bool ((c.algo == 1) || (c.algo == 2)), .bool (decide (1 ≤ c.first) && decide (c.first ≤ 1099511627776)), .bool (decide (1 ≤ c.grain) && decide (c.grain ≤ 1099511627776)), .bool (decide (c.grain ≤ c.cap) && decide (c.cap ≤ 1099511627776)), .bool (decide (c.mss ≤ c.burst) && decide (c.burst ≤ 1073741824)), .bool (decide (1 ≤ c.slowest) && decide (c.slowest ≤ 4294967296)), .bool (decide (0 ≤ c.chal) && decide (c.chal ≤ 64)), .bool (decide (1 ≤ c.every) && decide (c.every ≤ 1099511627776))] = W2 at hS2 hBf ⊢
    have hBc : Blk W2 W.heap.size ((flags c).map Value.bool).toArray 67 := hBf
    have hcell : ∀ k : Nat, k < 17 → W2.cell? ⟨W.heap.size, k, none⟩ = some (.bool ((flags c).getD k false)) := fun k hk => by
      rw [hBc.cell]
      have hk' : k < (flags c).length := hk
      simp [List.getD, hk']
    have M2 := Base.next0 hL hL.size hS2
    have hf17 := flags_len c
    clear hBf hBc hBz hS hS1 hS2 hmul p0 p1 p2 p3 p4 p5 p6 p7 p8 p9 p10 p11 p12 p13 p14 p15 p16 hB hL
    go_wp2
    go_loopw [4] (fun i wr => ∃ k : Nat, k ≤ 17 ∧ i = .int .i64 k ∧ pos (flags c) = bad k ((flags c).drop k) ∧ wr = W2) (fun i _ => 17 - (intOf i).toNat)
    case atStart => exact ⟨0, by omega, rfl, rfl, rfl⟩
    case round =>
      obtain ⟨k, hk, rfl, hp, rfl⟩ := hrel
      by_cases hlt : k < 17
      · have hc0 := hcell k hlt
        have hkI : (k : Int) < 17 := by omega
        have hH := Lib.hid (hp.trans (bad_step (by omega)))
        clear hp hcell
        generalize (flags c).getD k false = y at *
        cases y
        · go_wp2
          all_goals go_ret
          all_goals exact ⟨Base.ret_i64 (by have := hH.out; simp at this; exact this.symm), M2⟩
        · go_wp2
          all_goals go_roundw
          case rel => exact ⟨k + 1, by omega, by go_num, by have := hH.out; simpa using this, trivial⟩
          case measure => simp [intOf]; omega
      · obtain rfl : k = 17 := by omega
        have hH := Lib.hid (hp.trans (bad_end (by omega)))
        clear hp
        go_wp2
        all_goals go_ret
        all_goals exact ⟨Base.ret_i64 hH.out.symm, M2⟩
  · refine op_value (v := .pointer (some ⟨W.heap.size, 0, none⟩)) (w' := W.drew.alloc (.cells #[.bool false, .bool false, .bool false, .bool false, .bool false, .bool false, .bool false, .bool false, .bool false, .bool false, .bool false, .bool false, .bool false, .bool false, .bool false, .bool false, .bool false] 67)) rfl (by kernel_rfl) (by rfl) ⟨hS1, ?_⟩
    refine held_call (i := 54) (f := 42) (args := #[.int .u64 2, .int .u64 c.mss]) rfl (by kernel_rfl) (by kernel_rfl) (call_mul (.const (.int .u64 2)) (.tmp 58) _ rfl rfl rfl (by kernel_rfl)) ((hmul _).mono ?_)
    rintro e w' ⟨rfl, rfl⟩
    refine ⟨_, rfl, hS1, ?_⟩
    refine held_take (i := 55) (v := .bool (decide (Sat.mul 2 c.mss ≤ c.least))) rfl (by kernel_rfl) (by kernel_rfl) (by kernel_rfl) (fun _ _ _ h => h) (by kernel_rfl) hS1 (fun u hu => geq_u64 (.tmp 56) (.tmp 59) rfl (by kernel_rfl) (by kernel_rfl)) ?_
    refine held_many (fuel := 2) (by kernel_rfl) (by kernel_rfl) (fun _ _ d _ _ h => by cases d <;> exact h) hS1 [61, 62, 63, 64, 65, 69, 70, 71, 72, 73, 77, 78, 79, 80, 81, 85, 86, 87, 88, 89, 95, 96, 97, 98, 99, 105, 106, 107, 108, 109, 113, 114, 115, 116, 117, 121, 122, 123, 124, 125, 129, 130, 131, 132, 133] _ _ (by kernel_rfl) ?_
    refine i_free (v := .bool (decide (c.least ≤ c.most))) rfl rfl (fun u hu => move_run (.tmp 65) rfl (by kernel_rfl)) ?_
    refine i_if (v := .pointer (some ⟨g, 8, none⟩)) (b := decide (c.least ≤ c.most)) (pol := true) rfl rfl rfl rfl (by kernel_rfl) (fun h u hu => fa8 (.tmp 1) rfl (by kernel_rfl)) ?_
    refine i_if (v := .int .u64 c.most) (b := decide (c.least ≤ c.most)) (pol := true) rfl rfl rfl rfl (by kernel_rfl) (fun h u hu => ld_u64 (.tmp 67) rfl (behind (u := .pointer (some ⟨g, 8, none⟩)) (by kernel_rfl) h) (held_cell hu p8)) ?_
    refine i_if (v := .bool (decide (c.most ≤ 1073741824))) (b := decide (c.least ≤ c.most)) (pol := true) rfl rfl rfl rfl (by kernel_rfl) (fun h u hu => leq_u64 (.tmp 68) (.const (.int .u64 1073741824)) rfl (behind (u := .int .u64 c.most) (by kernel_rfl) h) rfl) ?_
    refine i_free (v := .bool (decide (c.least ≤ c.most) && decide (c.most ≤ 1073741824))) rfl rfl (fun u hu => and_run (.tmp 66) (.tmp 69) rfl rfl (by kernel_rfl) (by kernel_rfl)) ?_
    refine i_free (v := .bool ((c.algo == 1))) rfl rfl (fun u hu => move_run (.tmp 73) rfl (by kernel_rfl)) ?_
    refine i_if (v := .pointer (some ⟨g, 9, none⟩)) (b := (c.algo == 1)) (pol := false) rfl rfl rfl rfl (by kernel_rfl) (fun h u hu => fa9 (.tmp 1) rfl (by kernel_rfl)) ?_
    refine i_if (v := .int .i64 c.algo) (b := (c.algo == 1)) (pol := false) rfl rfl rfl rfl (by kernel_rfl) (fun h u hu => ld_i64 (.tmp 75) rfl (behind (u := .pointer (some ⟨g, 9, none⟩)) (by kernel_rfl) h) (held_cell hu p9)) ?_
    refine i_if (v := .bool ((c.algo == 2))) (b := (c.algo == 1)) (pol := false) rfl rfl rfl rfl (by kernel_rfl) (fun h u hu => eql_i64 (.tmp 76) (.const (.int .i64 2)) rfl (behind (u := .int .i64 c.algo) (by kernel_rfl) h) rfl) ?_
    refine i_free (v := .bool ((c.algo == 1) || (c.algo == 2))) rfl rfl (fun u hu => or_run (.tmp 74) (.tmp 77) rfl rfl (by kernel_rfl) (by kernel_rfl)) ?_
    refine i_free (v := .bool (decide (1 ≤ c.first))) rfl rfl (fun u hu => move_run (.tmp 81) rfl (by kernel_rfl)) ?_
    refine i_if (v := .pointer (some ⟨g, 10, none⟩)) (b := decide (1 ≤ c.first)) (pol := true) rfl rfl rfl rfl (by kernel_rfl) (fun h u hu => fa10 (.tmp 1) rfl (by kernel_rfl)) ?_
    refine i_if (v := .int .u64 c.first) (b := decide (1 ≤ c.first)) (pol := true) rfl rfl rfl rfl (by kernel_rfl) (fun h u hu => ld_u64 (.tmp 83) rfl (behind (u := .pointer (some ⟨g, 10, none⟩)) (by kernel_rfl) h) (held_cell hu p10)) ?_
    refine i_if (v := .bool (decide (c.first ≤ 1099511627776))) (b := decide (1 ≤ c.first)) (pol := true) rfl rfl rfl rfl (by kernel_rfl) (fun h u hu => leq_u64 (.tmp 84) (.const (.int .u64 1099511627776)) rfl (behind (u := .int .u64 c.first) (by kernel_rfl) h) rfl) ?_
    refine i_free (v := .bool (decide (1 ≤ c.first) && decide (c.first ≤ 1099511627776))) rfl rfl (fun u hu => and_run (.tmp 82) (.tmp 85) rfl rfl (by kernel_rfl) (by kernel_rfl)) ?_
    refine i_free (v := .bool (decide (1 ≤ c.grain))) rfl rfl (fun u hu => move_run (.tmp 89) rfl (by kernel_rfl)) ?_
    refine i_if (v := .pointer (some ⟨g, 11, none⟩)) (b := decide (1 ≤ c.grain)) (pol := true) rfl rfl rfl rfl (by kernel_rfl) (fun h u hu => fa11 (.tmp 1) rfl (by kernel_rfl)) ?_
    refine i_if (v := .int .u64 c.grain) (b := decide (1 ≤ c.grain)) (pol := true) rfl rfl rfl rfl (by kernel_rfl) (fun h u hu => ld_u64 (.tmp 91) rfl (behind (u := .pointer (some ⟨g, 11, none⟩)) (by kernel_rfl) h) (held_cell hu p11)) ?_
    refine i_if (v := .bool (decide (c.grain ≤ 1099511627776))) (b := decide (1 ≤ c.grain)) (pol := true) rfl rfl rfl rfl (by kernel_rfl) (fun h u hu => leq_u64 (.tmp 92) (.const (.int .u64 1099511627776)) rfl (behind (u := .int .u64 c.grain) (by kernel_rfl) h) rfl) ?_
    refine i_free (v := .bool (decide (1 ≤ c.grain) && decide (c.grain ≤ 1099511627776))) rfl rfl (fun u hu => and_run (.tmp 90) (.tmp 93) rfl rfl (by kernel_rfl) (by kernel_rfl)) ?_
    refine i_free (v := .bool (decide (c.grain ≤ c.cap))) rfl rfl (fun u hu => move_run (.tmp 99) rfl (by kernel_rfl)) ?_
    refine i_if (v := .pointer (some ⟨g, 12, none⟩)) (b := decide (c.grain ≤ c.cap)) (pol := true) rfl rfl rfl rfl (by kernel_rfl) (fun h u hu => fa12 (.tmp 1) rfl (by kernel_rfl)) ?_
    refine i_if (v := .int .u64 c.cap) (b := decide (c.grain ≤ c.cap)) (pol := true) rfl rfl rfl rfl (by kernel_rfl) (fun h u hu => ld_u64 (.tmp 101) rfl (behind (u := .pointer (some ⟨g, 12, none⟩)) (by kernel_rfl) h) (held_cell hu p12)) ?_
    refine i_if (v := .bool (decide (c.cap ≤ 1099511627776))) (b := decide (c.grain ≤ c.cap)) (pol := true) rfl rfl rfl rfl (by kernel_rfl) (fun h u hu => leq_u64 (.tmp 102) (.const (.int .u64 1099511627776)) rfl (behind (u := .int .u64 c.cap) (by kernel_rfl) h) rfl) ?_
    refine i_free (v := .bool (decide (c.grain ≤ c.cap) && decide (c.cap ≤ 1099511627776))) rfl rfl (fun u hu => and_run (.tmp 100) (.tmp 103) rfl rfl (by kernel_rfl) (by kernel_rfl)) ?_
    refine i_free (v := .bool (decide (c.mss ≤ c.burst))) rfl rfl (fun u hu => move_run (.tmp 109) rfl (by kernel_rfl)) ?_
    refine i_if (v := .pointer (some ⟨g, 13, none⟩)) (b := decide (c.mss ≤ c.burst)) (pol := true) rfl rfl rfl rfl (by kernel_rfl) (fun h u hu => fa13 (.tmp 1) rfl (by kernel_rfl)) ?_
    refine i_if (v := .int .u64 c.burst) (b := decide (c.mss ≤ c.burst)) (pol := true) rfl rfl rfl rfl (by kernel_rfl) (fun h u hu => ld_u64 (.tmp 111) rfl (behind (u := .pointer (some ⟨g, 13, none⟩)) (by kernel_rfl) h) (held_cell hu p13)) ?_
    refine i_if (v := .bool (decide (c.burst ≤ 1073741824))) (b := decide (c.mss ≤ c.burst)) (pol := true) rfl rfl rfl rfl (by kernel_rfl) (fun h u hu => leq_u64 (.tmp 112) (.const (.int .u64 1073741824)) rfl (behind (u := .int .u64 c.burst) (by kernel_rfl) h) rfl) ?_
    refine i_free (v := .bool (decide (c.mss ≤ c.burst) && decide (c.burst ≤ 1073741824))) rfl rfl (fun u hu => and_run (.tmp 110) (.tmp 113) rfl rfl (by kernel_rfl) (by kernel_rfl)) ?_
    refine i_free (v := .bool (decide (1 ≤ c.slowest))) rfl rfl (fun u hu => move_run (.tmp 117) rfl (by kernel_rfl)) ?_
    refine i_if (v := .pointer (some ⟨g, 14, none⟩)) (b := decide (1 ≤ c.slowest)) (pol := true) rfl rfl rfl rfl (by kernel_rfl) (fun h u hu => fa14 (.tmp 1) rfl (by kernel_rfl)) ?_
    refine i_if (v := .int .u64 c.slowest) (b := decide (1 ≤ c.slowest)) (pol := true) rfl rfl rfl rfl (by kernel_rfl) (fun h u hu => ld_u64 (.tmp 119) rfl (behind (u := .pointer (some ⟨g, 14, none⟩)) (by kernel_rfl) h) (held_cell hu p14)) ?_
    refine i_if (v := .bool (decide (c.slowest ≤ 4294967296))) (b := decide (1 ≤ c.slowest)) (pol := true) rfl rfl rfl rfl (by kernel_rfl) (fun h u hu => leq_u64 (.tmp 120) (.const (.int .u64 4294967296)) rfl (behind (u := .int .u64 c.slowest) (by kernel_rfl) h) rfl) ?_
    refine i_free (v := .bool (decide (1 ≤ c.slowest) && decide (c.slowest ≤ 4294967296))) rfl rfl (fun u hu => and_run (.tmp 118) (.tmp 121) rfl rfl (by kernel_rfl) (by kernel_rfl)) ?_
    refine i_free (v := .bool (decide (0 ≤ c.chal))) rfl rfl (fun u hu => move_run (.tmp 125) rfl (by kernel_rfl)) ?_
    refine i_if (v := .pointer (some ⟨g, 15, none⟩)) (b := decide (0 ≤ c.chal)) (pol := true) rfl rfl rfl rfl (by kernel_rfl) (fun h u hu => fa15 (.tmp 1) rfl (by kernel_rfl)) ?_
    refine i_if (v := .int .i64 c.chal) (b := decide (0 ≤ c.chal)) (pol := true) rfl rfl rfl rfl (by kernel_rfl) (fun h u hu => ld_i64 (.tmp 127) rfl (behind (u := .pointer (some ⟨g, 15, none⟩)) (by kernel_rfl) h) (held_cell hu p15)) ?_
    refine i_if (v := .bool (decide (c.chal ≤ 64))) (b := decide (0 ≤ c.chal)) (pol := true) rfl rfl rfl rfl (by kernel_rfl) (fun h u hu => leq_i64 (.tmp 128) (.const (.int .i64 64)) rfl (behind (u := .int .i64 c.chal) (by kernel_rfl) h) rfl) ?_
    refine i_free (v := .bool (decide (0 ≤ c.chal) && decide (c.chal ≤ 64))) rfl rfl (fun u hu => and_run (.tmp 126) (.tmp 129) rfl rfl (by kernel_rfl) (by kernel_rfl)) ?_
    refine i_free (v := .bool (decide (1 ≤ c.every))) rfl rfl (fun u hu => move_run (.tmp 133) rfl (by kernel_rfl)) ?_
    refine i_if (v := .pointer (some ⟨g, 16, none⟩)) (b := decide (1 ≤ c.every)) (pol := true) rfl rfl rfl rfl (by kernel_rfl) (fun h u hu => fa16 (.tmp 1) rfl (by kernel_rfl)) ?_
    refine i_if (v := .int .u64 c.every) (b := decide (1 ≤ c.every)) (pol := true) rfl rfl rfl rfl (by kernel_rfl) (fun h u hu => ld_u64 (.tmp 135) rfl (behind (u := .pointer (some ⟨g, 16, none⟩)) (by kernel_rfl) h) (held_cell hu p16)) ?_
    refine i_if (v := .bool (decide (c.every ≤ 1099511627776))) (b := decide (1 ≤ c.every)) (pol := true) rfl rfl rfl rfl (by kernel_rfl) (fun h u hu => leq_u64 (.tmp 136) (.const (.int .u64 1099511627776)) rfl (behind (u := .int .u64 c.every) (by kernel_rfl) h) rfl) ?_
    refine i_free (v := .bool (decide (1 ≤ c.every) && decide (c.every ≤ 1099511627776))) rfl rfl (fun u hu => and_run (.tmp 134) (.tmp 137) rfl rfl (by kernel_rfl) (by kernel_rfl)) ?_
    refine held_take (i := 134) (v := .agg #[.bool (decide (1 ≤ c.bits) && decide (c.bits ≤ 64)), .bool (c.one != 1), .bool (decide (4 ≤ c.ring) && decide (c.ring ≤ 256)), .bool (decide (c.limit ≤ 4611686018427387903)), .bool (decide (1 ≤ c.room) && decide (c.room ≤ 65536)), .bool (decide (1 ≤ c.mss) && decide (c.mss ≤ 1500)), .bool (decide (c.least ≤ c.initial) && decide (c.initial ≤ c.most)), .bool (decide (Sat.mul 2 c.mss ≤ c.least)), .bool (decide (c.least ≤ c.most) && decide (c.most ≤ 1073741824)), .bool ((c.algo == 1) || (c.algo == 2)), .bool (decide (1 ≤ c.first) && decide (c.first ≤ 1099511627776)), .bool (decide (1 ≤ c.grain) && decide (c.grain ≤ 1099511627776)), .bool (decide (c.grain ≤ c.cap) && decide (c.cap ≤ 1099511627776)), .bool (decide (c.mss ≤ c.burst) && decide (c.burst ≤ 1073741824)), .bool (decide (1 ≤ c.slowest) && decide (c.slowest ≤ 4294967296)), .bool (decide (0 ≤ c.chal) && decide (c.chal ≤ 64)), .bool (decide (1 ≤ c.every) && decide (c.every ≤ 1099511627776))]) rfl (by kernel_rfl) (by kernel_rfl) (by kernel_rfl) (fun _ _ _ h => h) (by kernel_rfl) hS1 (fun u hu => by kernel_rfl) ?_
    refine held_row (i := 136) (g := W.heap.size) (cells := #[.bool (decide (1 ≤ c.bits) && decide (c.bits ≤ 64)), .bool (c.one != 1), .bool (decide (4 ≤ c.ring) && decide (c.ring ≤ 256)), .bool (decide (c.limit ≤ 4611686018427387903)), .bool (decide (1 ≤ c.room) && decide (c.room ≤ 65536)), .bool (decide (1 ≤ c.mss) && decide (c.mss ≤ 1500)), .bool (decide (c.least ≤ c.initial) && decide (c.initial ≤ c.most)), .bool (decide (Sat.mul 2 c.mss ≤ c.least)), .bool (decide (c.least ≤ c.most) && decide (c.most ≤ 1073741824)), .bool ((c.algo == 1) || (c.algo == 2)), .bool (decide (1 ≤ c.first) && decide (c.first ≤ 1099511627776)), .bool (decide (1 ≤ c.grain) && decide (c.grain ≤ 1099511627776)), .bool (decide (c.grain ≤ c.cap) && decide (c.cap ≤ 1099511627776)), .bool (decide (c.mss ≤ c.burst) && decide (c.burst ≤ 1073741824)), .bool (decide (1 ≤ c.slowest) && decide (c.slowest ≤ 4294967296)), .bool (decide (0 ≤ c.chal) && decide (c.chal ≤ 64)), .bool (decide (1 ≤ c.every) && decide (c.every ≤ 1099511627776))]) rfl (by kernel_rfl) (by kernel_rfl) rfl (by kernel_rfl) (by kernel_rfl) hBz (by kernel_rfl) rfl (by kernel_rfl) hS2 ?_
    refine held_done_as (a' := ⟨#[.agg #[.int .i64 c.bits, .int .u64 c.one, .int .i64 c.ring, .int .u64 c.limit, .int .i64 c.room, .int .u64 c.mss, .int .u64 c.initial, .int .u64 c.least, .int .u64 c.most, .int .i64 c.algo, .int .u64 c.first, .int .u64 c.grain, .int .u64 c.cap, .int .u64 c.burst, .int .u64 c.slowest, .int .i64 c.chal, .int .u64 c.every], .pointer (some ⟨g, 0, none⟩), .int .i64 0, .pointer (some ⟨W.heap.size, 0, none⟩), undef, .pointer (some ⟨g, 0, none⟩), .int .i64 c.bits, .bool (decide (1 ≤ c.bits)), .bool (decide (1 ≤ c.bits)), (if (decide (1 ≤ c.bits)) = true then (.pointer (some ⟨g, 0, none⟩) : Value) else undef), (if (decide (1 ≤ c.bits)) = true then (.int .i64 c.bits : Value) else undef), (if (decide (1 ≤ c.bits)) = true then (.bool (decide (c.bits ≤ 64)) : Value) else undef), .bool (decide (1 ≤ c.bits) && decide (c.bits ≤ 64)), .pointer (some ⟨g, 1, none⟩), .int .u64 c.one, .bool ((c.one != 1)), .pointer (some ⟨g, 2, none⟩), .int .i64 c.ring, .bool (decide (4 ≤ c.ring)), .bool (decide (4 ≤ c.ring)), (if (decide (4 ≤ c.ring)) = true then (.pointer (some ⟨g, 2, none⟩) : Value) else undef), (if (decide (4 ≤ c.ring)) = true then (.int .i64 c.ring : Value) else undef), (if (decide (4 ≤ c.ring)) = true then (.bool (decide (c.ring ≤ 256)) : Value) else undef), .bool (decide (4 ≤ c.ring) && decide (c.ring ≤ 256)), .pointer (some ⟨g, 3, none⟩), .int .u64 c.limit, .bool (decide (c.limit ≤ 4611686018427387903)), .pointer (some ⟨g, 4, none⟩), .int .i64 c.room, .bool (decide (1 ≤ c.room)), .bool (decide (1 ≤ c.room)), (if (decide (1 ≤ c.room)) = true then (.pointer (some ⟨g, 4, none⟩) : Value) else undef), (if (decide (1 ≤ c.room)) = true then (.int .i64 c.room : Value) else undef), (if (decide (1 ≤ c.room)) = true then (.bool (decide (c.room ≤ 65536)) : Value) else undef), .bool (decide (1 ≤ c.room) && decide (c.room ≤ 65536)), .pointer (some ⟨g, 5, none⟩), .int .u64 c.mss, .bool (decide (1 ≤ c.mss)), .bool (decide (1 ≤ c.mss)), (if (decide (1 ≤ c.mss)) = true then (.pointer (some ⟨g, 5, none⟩) : Value) else undef), (if (decide (1 ≤ c.mss)) = true then (.int .u64 c.mss : Value) else undef), (if (decide (1 ≤ c.mss)) = true then (.bool (decide (c.mss ≤ 1500)) : Value) else undef), .bool (decide (1 ≤ c.mss) && decide (c.mss ≤ 1500)), .pointer (some ⟨g, 6, none⟩), .int .u64 c.initial, .pointer (some ⟨g, 7, none⟩), .int .u64 c.least, .bool (decide (c.least ≤ c.initial)), .bool (decide (c.least ≤ c.initial)), (if (decide (c.least ≤ c.initial)) = true then (.pointer (some ⟨g, 6, none⟩) : Value) else undef), (if (decide (c.least ≤ c.initial)) = true then (.int .u64 c.initial : Value) else undef), (if (decide (c.least ≤ c.initial)) = true then (.pointer (some ⟨g, 8, none⟩) : Value) else undef), (if (decide (c.least ≤ c.initial)) = true then (.int .u64 c.most : Value) else undef), (if (decide (c.least ≤ c.initial)) = true then (.bool (decide (c.initial ≤ c.most)) : Value) else undef), .bool (decide (c.least ≤ c.initial) && decide (c.initial ≤ c.most)), .pointer (some ⟨g, 7, none⟩), .int .u64 c.least, .pointer (some ⟨g, 5, none⟩), .int .u64 c.mss, .int .u64 (Sat.mul 2 c.mss), .bool (decide (Sat.mul 2 c.mss ≤ c.least)), .pointer (some ⟨g, 8, none⟩), .int .u64 c.most, .pointer (some ⟨g, 7, none⟩), .int .u64 c.least, .bool (decide (c.least ≤ c.most)), .bool (decide (c.least ≤ c.most)), (if (decide (c.least ≤ c.most)) = true then (.pointer (some ⟨g, 8, none⟩) : Value) else undef), (if (decide (c.least ≤ c.most)) = true then (.int .u64 c.most : Value) else undef), (if (decide (c.least ≤ c.most)) = true then (.bool (decide (c.most ≤ 1073741824)) : Value) else undef), .bool (decide (c.least ≤ c.most) && decide (c.most ≤ 1073741824)), .pointer (some ⟨g, 9, none⟩), .int .i64 c.algo, .bool ((c.algo == 1)), .bool ((c.algo == 1)), (if ((c.algo == 1)) = false then (.pointer (some ⟨g, 9, none⟩) : Value) else undef), (if ((c.algo == 1)) = false then (.int .i64 c.algo : Value) else undef), (if ((c.algo == 1)) = false then (.bool ((c.algo == 2)) : Value) else undef), .bool ((c.algo == 1) || (c.algo == 2)), .pointer (some ⟨g, 10, none⟩), .int .u64 c.first, .bool (decide (1 ≤ c.first)), .bool (decide (1 ≤ c.first)), (if (decide (1 ≤ c.first)) = true then (.pointer (some ⟨g, 10, none⟩) : Value) else undef), (if (decide (1 ≤ c.first)) = true then (.int .u64 c.first : Value) else undef), (if (decide (1 ≤ c.first)) = true then (.bool (decide (c.first ≤ 1099511627776)) : Value) else undef), .bool (decide (1 ≤ c.first) && decide (c.first ≤ 1099511627776)), .pointer (some ⟨g, 11, none⟩), .int .u64 c.grain, .bool (decide (1 ≤ c.grain)), .bool (decide (1 ≤ c.grain)), (if (decide (1 ≤ c.grain)) = true then (.pointer (some ⟨g, 11, none⟩) : Value) else undef), (if (decide (1 ≤ c.grain)) = true then (.int .u64 c.grain : Value) else undef), (if (decide (1 ≤ c.grain)) = true then (.bool (decide (c.grain ≤ 1099511627776)) : Value) else undef), .bool (decide (1 ≤ c.grain) && decide (c.grain ≤ 1099511627776)), .pointer (some ⟨g, 12, none⟩), .int .u64 c.cap, .pointer (some ⟨g, 11, none⟩), .int .u64 c.grain, .bool (decide (c.grain ≤ c.cap)), .bool (decide (c.grain ≤ c.cap)), (if (decide (c.grain ≤ c.cap)) = true then (.pointer (some ⟨g, 12, none⟩) : Value) else undef), (if (decide (c.grain ≤ c.cap)) = true then (.int .u64 c.cap : Value) else undef), (if (decide (c.grain ≤ c.cap)) = true then (.bool (decide (c.cap ≤ 1099511627776)) : Value) else undef), .bool (decide (c.grain ≤ c.cap) && decide (c.cap ≤ 1099511627776)), .pointer (some ⟨g, 13, none⟩), .int .u64 c.burst, .pointer (some ⟨g, 5, none⟩), .int .u64 c.mss, .bool (decide (c.mss ≤ c.burst)), .bool (decide (c.mss ≤ c.burst)), (if (decide (c.mss ≤ c.burst)) = true then (.pointer (some ⟨g, 13, none⟩) : Value) else undef), (if (decide (c.mss ≤ c.burst)) = true then (.int .u64 c.burst : Value) else undef), (if (decide (c.mss ≤ c.burst)) = true then (.bool (decide (c.burst ≤ 1073741824)) : Value) else undef), .bool (decide (c.mss ≤ c.burst) && decide (c.burst ≤ 1073741824)), .pointer (some ⟨g, 14, none⟩), .int .u64 c.slowest, .bool (decide (1 ≤ c.slowest)), .bool (decide (1 ≤ c.slowest)), (if (decide (1 ≤ c.slowest)) = true then (.pointer (some ⟨g, 14, none⟩) : Value) else undef), (if (decide (1 ≤ c.slowest)) = true then (.int .u64 c.slowest : Value) else undef), (if (decide (1 ≤ c.slowest)) = true then (.bool (decide (c.slowest ≤ 4294967296)) : Value) else undef), .bool (decide (1 ≤ c.slowest) && decide (c.slowest ≤ 4294967296)), .pointer (some ⟨g, 15, none⟩), .int .i64 c.chal, .bool (decide (0 ≤ c.chal)), .bool (decide (0 ≤ c.chal)), (if (decide (0 ≤ c.chal)) = true then (.pointer (some ⟨g, 15, none⟩) : Value) else undef), (if (decide (0 ≤ c.chal)) = true then (.int .i64 c.chal : Value) else undef), (if (decide (0 ≤ c.chal)) = true then (.bool (decide (c.chal ≤ 64)) : Value) else undef), .bool (decide (0 ≤ c.chal) && decide (c.chal ≤ 64)), .pointer (some ⟨g, 16, none⟩), .int .u64 c.every, .bool (decide (1 ≤ c.every)), .bool (decide (1 ≤ c.every)), (if (decide (1 ≤ c.every)) = true then (.pointer (some ⟨g, 16, none⟩) : Value) else undef), (if (decide (1 ≤ c.every)) = true then (.int .u64 c.every : Value) else undef), (if (decide (1 ≤ c.every)) = true then (.bool (decide (c.every ≤ 1099511627776)) : Value) else undef), .bool (decide (1 ≤ c.every) && decide (c.every ≤ 1099511627776)), .agg #[.bool (decide (1 ≤ c.bits) && decide (c.bits ≤ 64)), .bool (c.one != 1), .bool (decide (4 ≤ c.ring) && decide (c.ring ≤ 256)), .bool (decide (c.limit ≤ 4611686018427387903)), .bool (decide (1 ≤ c.room) && decide (c.room ≤ 65536)), .bool (decide (1 ≤ c.mss) && decide (c.mss ≤ 1500)), .bool (decide (c.least ≤ c.initial) && decide (c.initial ≤ c.most)), .bool (decide (Sat.mul 2 c.mss ≤ c.least)), .bool (decide (c.least ≤ c.most) && decide (c.most ≤ 1073741824)), .bool ((c.algo == 1) || (c.algo == 2)), .bool (decide (1 ≤ c.first) && decide (c.first ≤ 1099511627776)), .bool (decide (1 ≤ c.grain) && decide (c.grain ≤ 1099511627776)), .bool (decide (c.grain ≤ c.cap) && decide (c.cap ≤ 1099511627776)), .bool (decide (c.mss ≤ c.burst) && decide (c.burst ≤ 1073741824)), .bool (decide (1 ≤ c.slowest) && decide (c.slowest ≤ 4294967296)), .bool (decide (0 ≤ c.chal) && decide (c.chal ≤ 64)), .bool (decide (1 ≤ c.every) && decide (c.every ≤ 1099511627776))], undef, undef, undef, undef, undef, undef, undef, undef, undef, undef], []⟩) (by kernel_rfl) (by kernel_rfl) ?_
    generalize (if (decide (1 ≤ c.bits)) = true then (.pointer (some ⟨g, 0, none⟩) : Value) else undef) = u9
    generalize (if (decide (1 ≤ c.bits)) = true then (.int .i64 c.bits : Value) else undef) = u10
    generalize (if (decide (1 ≤ c.bits)) = true then (.bool (decide (c.bits ≤ 64)) : Value) else undef) = u11
    generalize (if (decide (4 ≤ c.ring)) = true then (.pointer (some ⟨g, 2, none⟩) : Value) else undef) = u20
    generalize (if (decide (4 ≤ c.ring)) = true then (.int .i64 c.ring : Value) else undef) = u21
    generalize (if (decide (4 ≤ c.ring)) = true then (.bool (decide (c.ring ≤ 256)) : Value) else undef) = u22
    generalize (if (decide (1 ≤ c.room)) = true then (.pointer (some ⟨g, 4, none⟩) : Value) else undef) = u31
    generalize (if (decide (1 ≤ c.room)) = true then (.int .i64 c.room : Value) else undef) = u32
    generalize (if (decide (1 ≤ c.room)) = true then (.bool (decide (c.room ≤ 65536)) : Value) else undef) = u33
    generalize (if (decide (1 ≤ c.mss)) = true then (.pointer (some ⟨g, 5, none⟩) : Value) else undef) = u39
    generalize (if (decide (1 ≤ c.mss)) = true then (.int .u64 c.mss : Value) else undef) = u40
    generalize (if (decide (1 ≤ c.mss)) = true then (.bool (decide (c.mss ≤ 1500)) : Value) else undef) = u41
    generalize (if (decide (c.least ≤ c.initial)) = true then (.pointer (some ⟨g, 6, none⟩) : Value) else undef) = u49
    generalize (if (decide (c.least ≤ c.initial)) = true then (.int .u64 c.initial : Value) else undef) = u50
    generalize (if (decide (c.least ≤ c.initial)) = true then (.pointer (some ⟨g, 8, none⟩) : Value) else undef) = u51
    generalize (if (decide (c.least ≤ c.initial)) = true then (.int .u64 c.most : Value) else undef) = u52
    generalize (if (decide (c.least ≤ c.initial)) = true then (.bool (decide (c.initial ≤ c.most)) : Value) else undef) = u53
    generalize (if (decide (c.least ≤ c.most)) = true then (.pointer (some ⟨g, 8, none⟩) : Value) else undef) = u67
    generalize (if (decide (c.least ≤ c.most)) = true then (.int .u64 c.most : Value) else undef) = u68
    generalize (if (decide (c.least ≤ c.most)) = true then (.bool (decide (c.most ≤ 1073741824)) : Value) else undef) = u69
    generalize (if ((c.algo == 1)) = false then (.pointer (some ⟨g, 9, none⟩) : Value) else undef) = u75
    generalize (if ((c.algo == 1)) = false then (.int .i64 c.algo : Value) else undef) = u76
    generalize (if ((c.algo == 1)) = false then (.bool ((c.algo == 2)) : Value) else undef) = u77
    generalize (if (decide (1 ≤ c.first)) = true then (.pointer (some ⟨g, 10, none⟩) : Value) else undef) = u83
    generalize (if (decide (1 ≤ c.first)) = true then (.int .u64 c.first : Value) else undef) = u84
    generalize (if (decide (1 ≤ c.first)) = true then (.bool (decide (c.first ≤ 1099511627776)) : Value) else undef) = u85
    generalize (if (decide (1 ≤ c.grain)) = true then (.pointer (some ⟨g, 11, none⟩) : Value) else undef) = u91
    generalize (if (decide (1 ≤ c.grain)) = true then (.int .u64 c.grain : Value) else undef) = u92
    generalize (if (decide (1 ≤ c.grain)) = true then (.bool (decide (c.grain ≤ 1099511627776)) : Value) else undef) = u93
    generalize (if (decide (c.grain ≤ c.cap)) = true then (.pointer (some ⟨g, 12, none⟩) : Value) else undef) = u101
    generalize (if (decide (c.grain ≤ c.cap)) = true then (.int .u64 c.cap : Value) else undef) = u102
    generalize (if (decide (c.grain ≤ c.cap)) = true then (.bool (decide (c.cap ≤ 1099511627776)) : Value) else undef) = u103
    generalize (if (decide (c.mss ≤ c.burst)) = true then (.pointer (some ⟨g, 13, none⟩) : Value) else undef) = u111
    generalize (if (decide (c.mss ≤ c.burst)) = true then (.int .u64 c.burst : Value) else undef) = u112
    generalize (if (decide (c.mss ≤ c.burst)) = true then (.bool (decide (c.burst ≤ 1073741824)) : Value) else undef) = u113
    generalize (if (decide (1 ≤ c.slowest)) = true then (.pointer (some ⟨g, 14, none⟩) : Value) else undef) = u119
    generalize (if (decide (1 ≤ c.slowest)) = true then (.int .u64 c.slowest : Value) else undef) = u120
    generalize (if (decide (1 ≤ c.slowest)) = true then (.bool (decide (c.slowest ≤ 4294967296)) : Value) else undef) = u121
    generalize (if (decide (0 ≤ c.chal)) = true then (.pointer (some ⟨g, 15, none⟩) : Value) else undef) = u127
    generalize (if (decide (0 ≤ c.chal)) = true then (.int .i64 c.chal : Value) else undef) = u128
    generalize (if (decide (0 ≤ c.chal)) = true then (.bool (decide (c.chal ≤ 64)) : Value) else undef) = u129
    generalize (if (decide (1 ≤ c.every)) = true then (.pointer (some ⟨g, 16, none⟩) : Value) else undef) = u135
    generalize (if (decide (1 ≤ c.every)) = true then (.int .u64 c.every : Value) else undef) = u136
    generalize (if (decide (1 ≤ c.every)) = true then (.bool (decide (c.every ≤ 1099511627776)) : Value) else undef) = u137
    generalize (W.drew.alloc (.cells #[.bool false, .bool false, .bool false, .bool false, .bool false, .bool false, .bool false, .bool false, .bool false, .bool false, .bool false, .bool false, .bool false, .bool false, .bool false, .bool false, .bool false] 67)).setRow W.heap.size #[.bool (decide (1 ≤ c.bits) && decide (c.bits ≤ 64)), .bool (c.one != 1), .bool (decide (4 ≤ c.ring) && decide (c.ring ≤ 256)), .bool (decide (c.limit ≤ 4611686018427387903)), .bool (decide (1 ≤ c.room) && decide (c.room ≤ 65536)), .bool (decide (1 ≤ c.mss) && decide (c.mss ≤ 1500)), .bool (decide (c.least ≤ c.initial) && decide (c.initial ≤ c.most)), .bool (decide (Sat.mul 2 c.mss ≤ c.least)), .bool (decide (c.least ≤ c.most) && decide (c.most ≤ 1073741824)), .bool ((c.algo == 1) || (c.algo == 2)), .bool (decide (1 ≤ c.first) && decide (c.first ≤ 1099511627776)), .bool (decide (1 ≤ c.grain) && decide (c.grain ≤ 1099511627776)), .bool (decide (c.grain ≤ c.cap) && decide (c.cap ≤ 1099511627776)), .bool (decide (c.mss ≤ c.burst) && decide (c.burst ≤ 1073741824)), .bool (decide (1 ≤ c.slowest) && decide (c.slowest ≤ 4294967296)), .bool (decide (0 ≤ c.chal) && decide (c.chal ≤ 64)), .bool (decide (1 ≤ c.every) && decide (c.every ≤ 1099511627776))] = W2 at hS2 hBf ⊢
    have hBc : Blk W2 W.heap.size ((flags c).map Value.bool).toArray 67 := hBf
    have hcell : ∀ k : Nat, k < 17 → W2.cell? ⟨W.heap.size, k, none⟩ = some (.bool ((flags c).getD k false)) := fun k hk => by
      rw [hBc.cell]
      have hk' : k < (flags c).length := hk
      simp [List.getD, hk']
    have M2 := Base.next0 hL hL.size hS2
    have hf17 := flags_len c
    clear hBf hBc hBz hS hS1 hS2 hmul p0 p1 p2 p3 p4 p5 p6 p7 p8 p9 p10 p11 p12 p13 p14 p15 p16 hB hL
    go_wp2
    go_loopw [4] (fun i wr => ∃ k : Nat, k ≤ 17 ∧ i = .int .i64 k ∧ pos (flags c) = bad k ((flags c).drop k) ∧ wr = W2) (fun i _ => 17 - (intOf i).toNat)
    case atStart => exact ⟨0, by omega, rfl, rfl, rfl⟩
    case round =>
      obtain ⟨k, hk, rfl, hp, rfl⟩ := hrel
      by_cases hlt : k < 17
      · have hc0 := hcell k hlt
        have hkI : (k : Int) < 17 := by omega
        have hH := Lib.hid (hp.trans (bad_step (by omega)))
        clear hp hcell
        generalize (flags c).getD k false = y at *
        cases y
        · go_wp2
          all_goals go_ret
          all_goals exact ⟨Base.ret_i64 (by have := hH.out; simp at this; exact this.symm), M2⟩
        · go_wp2
          all_goals go_roundw
          case rel => exact ⟨k + 1, by omega, by go_num, by have := hH.out; simpa using this, trivial⟩
          case measure => simp [intOf]; omega
      · obtain rfl : k = 17 := by omega
        have hH := Lib.hid (hp.trans (bad_end (by omega)))
        clear hp
        go_wp2
        all_goals go_ret
        all_goals exact ⟨Base.ret_i64 hH.out.symm, M2⟩
end Go.Proofs.Ytnnpklnhdfpnjaa.Conf
