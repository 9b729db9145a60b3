/-
  Operations of a region, each by a law of its own, for walks by hand (XHeld): loads, stores of whole rows, min, max, equality, conversion.
-/
import Derived.Test.YtbamdilihpnhjaaTail2
import Derived.Test.YtbamdilihpnhjaaRowSt
import Derived.Test.YtbamdilihpnhjaaRows
import Derived.Deep.MidRow
import Derived.WalkKit
import Derived.ProofKit
import Derived.ChangeOld
import Derived.OwnWalk
import Derived.WalkSpells
import Derived.LoopTactic
set_option linter.unusedSimpArgs false
set_option linter.unusedVariables false
namespace Go.Proofs.Ytbamdilihpnhjaa.Hop
set_option linter.unusedVariables false
open Go.ChangeShapes Go.WideShapes Go.ChangeAt Go.RowKit
open Go.Proofs.Ytbamdilihpnhjaa.Base

section
variable {ρ : Operand → Value} {o : Oper} {u : World}
theorem lb_any (ty : TypeId) (x : Operand) (ho : o.op = .load ty x) {g i : Nat} {v : Value} (hx : ρ x = .pointer (some ⟨g, i, none⟩)) (hd : (match Try.prog.underlying ty with | some (.struct _) | some (.array _ _) | none => false | _ => true) = true) (hc : u.cell? ⟨g, i, none⟩ = some v) : (execOp ρ o).run Try.prog u = .ok (.value v) u := by
  cases hq : Try.prog.underlying ty with
  | none => rw [hq] at hd; cases hd
  | some d =>
    rw [hq] at hd
    unfold execOp
    rw [ho]
    have hagg : (isAgg ty).run Try.prog u = .ok false u := by
      unfold isAgg
      rw [Sem.run_bind, run_underlying hq u]
      cases d <;> simp_all
    simp [hx, Instr.loadAt, Instr.sureAddr, loadVar, Sem.run_bind, hagg, hc, go_sem]
theorem lb_mid (ty : TypeId) (x : Operand) (ho : o.op = .load ty x) {g i : Nat} {cs : List Value} {d : TypeDesc} (hx : ρ x = .pointer (some ⟨g, i, none⟩)) (hc : u.rangeAt g i cs) (hu : Try.prog.underlying ty = some d) (hd : d.isRow = true) (hi : (Try.prog.info? ty).map (·.size) = some cs.length) : (execOp ρ o).run Try.prog u = .ok (.value (.agg cs.toArray)) u := by
  unfold execOp
  simp only [ho, hx, Instr.loadAt, Instr.sureAddr, Sem.run_bind, Sem.run_pure, Result.andThen_ok, run_loadVar_mid u g i ty cs d hc hu hd hi]
theorem eq_same (k : IntKind) (ty : TypeId) (x y : Operand) (ho : o.op = .binOp .eql ty x y ty) {n : Int} (hx : ρ x = .int k n) (hy : ρ y = .int k n) (hu : Try.prog.underlying ty = some (.int k)) : (execOp ρ o).run Try.prog u = .ok (.value (.bool true)) u := by
  unfold execOp
  rw [ho]
  simp [hx, hy, hu, go_sem]
theorem cv_any (x : Operand) (ho : o.op = .convert 3 22 x) {n : Int} (hx : ρ x = .int .i64 n) (h0 : 0 ≤ n) (h1 : n ≤ 18446744073709551615) : (execOp ρ o).run Try.prog u = .ok (.value (.int .u64 n)) u := by
  unfold execOp
  rw [ho]
  have h2 : IntKind.u64.wrap n = n := by rw [IntKind.wrap_u64]; omega
  simp [hx, go_sem, h2]
theorem ad_any (x y : Operand) (ho : o.op = .binOp .add 3 x y 3) {n m : Int} (hx : ρ x = .int .i64 n) (hy : ρ y = .int .i64 m) (h0 : -9223372036854775808 ≤ n + m) (h1 : n + m ≤ 9223372036854775807) : (execOp ρ o).run Try.prog u = .ok (.value (.int .i64 (n + m))) u := by
  unfold execOp
  rw [ho]
  have h2 : IntKind.i64.wrap (n + m) = n + m := by rw [IntKind.wrap_i64]; omega
  simp [hx, hy, go_sem, h2]
theorem mn_u64 (x y : Operand) (ts : Array TypeId) (ho : o.op = .call { callee := .builtin .min, args := #[x, y], argTypes := ts }) {n m : Int} (hx : ρ x = .int .u64 n) (hy : ρ y = .int .u64 m) : (execOp ρ o).run Try.prog u = .ok (.value (.int .u64 (min n m))) u := by
  unfold execOp
  rw [ho]
  by_cases h : m < n
  · have e : min n m = m := by omega
    simp [hx, hy, go_sem, Builtin.min_, Builtin.min2, h, e]
  · have e : min n m = n := by omega
    simp [hx, hy, go_sem, Builtin.min_, Builtin.min2, h, e]
theorem mx_u64 (x y : Operand) (ts : Array TypeId) (ho : o.op = .call { callee := .builtin .max, args := #[x, y], argTypes := ts }) {n m : Int} (hx : ρ x = .int .u64 n) (hy : ρ y = .int .u64 m) : (execOp ρ o).run Try.prog u = .ok (.value (.int .u64 (max n m))) u := by
  unfold execOp
  rw [ho]
  by_cases h : n < m
  · have e : max n m = m := by omega
    simp [hx, hy, go_sem, Builtin.max_, Builtin.max2, h, e]
  · have e : max n m = n := by omega
    simp [hx, hy, go_sem, Builtin.max_, Builtin.max2, h, e]
theorem mn_i64 (x y : Operand) (ts : Array TypeId) (ho : o.op = .call { callee := .builtin .min, args := #[x, y], argTypes := ts }) {n m : Int} (hx : ρ x = .int .i64 n) (hy : ρ y = .int .i64 m) : (execOp ρ o).run Try.prog u = .ok (.value (.int .i64 (min n m))) u := by
  unfold execOp
  rw [ho]
  by_cases h : m < n
  · have e : min n m = m := by omega
    simp [hx, hy, go_sem, Builtin.min_, Builtin.min2, h, e]
  · have e : min n m = n := by omega
    simp [hx, hy, go_sem, Builtin.min_, Builtin.min2, h, e]
theorem mx_i64 (x y : Operand) (ts : Array TypeId) (ho : o.op = .call { callee := .builtin .max, args := #[x, y], argTypes := ts }) {n m : Int} (hx : ρ x = .int .i64 n) (hy : ρ y = .int .i64 m) : (execOp ρ o).run Try.prog u = .ok (.value (.int .i64 (max n m))) u := by
  unfold execOp
  rw [ho]
  by_cases h : n < m
  · have e : max n m = m := by omega
    simp [hx, hy, go_sem, Builtin.max_, Builtin.max2, h, e]
  · have e : max n m = n := by omega
    simp [hx, hy, go_sem, Builtin.max_, Builtin.max2, h, e]
end
/-- A store of a whole row of cells, as it runs. -/
theorem st_row {ρ : Operand → Value} {o : Oper} {u : World} (ty : TypeId) (x y : Operand) (ho : o.op = .store ty x y) {g : Nat} {old cells : Array Value} {t : TypeId} (hx : ρ x = .pointer (some ⟨g, 0, none⟩)) (hy : ρ y = .agg cells) (hB : Blk u g old t) (hi : (Try.prog.info? ty).map (·.size) = some cells.size) (hold : old.size = cells.size) (h1 : cells.all (·.oneCell') = true) : (execOp ρ o).run Try.prog u = .ok .skip (u.setRow g cells) := by
  unfold execOp
  simp only [ho, hx, hy, Instr.storeAt, Instr.sureAddr, Sem.run_bind, Sem.run_pure, Result.andThen_ok, run_storeVar_row u g t ty old cells hB hi hold h1]
/-- Number i alone may come up: a store. -/
theorem held_st {P : Program} {ops : Array Oper} {Q : Exit → Act → World → Prop} {md : Region.Mode} {S : World → Prop} {i : Nat} {oi : Oper} {fuel : Nat} {listed : Array Bool} {a : Act} {w w' : World} (hi : ops[i]? = some oi) (hr : Region.ready md ops listed = [i]) (hw : Region.wanted oi (yielded ops a.tmps) = true) (hv : (execOp a.eval oi).run P w = .ok .skip w') (hS : S w')
    (h : wpAnyH P md ops Q S fuel (listed.setIfInBounds i true) (a.put oi.dst undef) w') : wpAnyH P md ops Q S (fuel + 1) listed a w := by
  refine wpAnyH_all hr (by simp) fun k hk => ?_
  obtain rfl : k = i := by simpa using hk
  unfold wpOp
  simp only [hi, hw, if_true, Oper.wp, hv, Oper.upon]
  exact .inl ⟨hS, h⟩
theorem op_st {P : Program} {ops : Array Oper} {Q : Exit → Act → World → Prop} {i : Nat} {oi : Oper} {K : Act → World → Prop} {a : Act} {w w' : World} (hi : ops[i]? = some oi) (hw : Region.wanted oi (yielded ops a.tmps) = true) (hv : (execOp a.eval oi).run P w = .ok .skip w') (h : K (a.put oi.dst undef) w') : wpOp P ops Q i K a w := by
  unfold wpOp
  simp only [hi, hw, if_true, Oper.wp, hv, Oper.upon]
  exact .inl h
theorem held_end2 {P : Program} {ops : Array Oper} {Q : Exit → Act → World → Prop} {md : Region.Mode} {S : World → Prop} {fuel : Nat} {listed : Array Bool} {a : Act} {w : World} (t u : Nat) (v x : Value) (hr : Region.ready md ops listed = []) (hd : a.defers = []) (hv : a.tmps.getD t undef = v) (hx : a.tmps.getD u undef = x)
    (h : ∀ a' : Act, a'.defers = [] → a'.tmps.getD t undef = v → a'.tmps.getD u undef = x → Q .normal a' w) : wpAnyH P md ops Q S fuel listed a w := wpAnyH_done hr (h a hd hv hx) fuel
theorem held_three {P : Program} {ops : Array Oper} {Q : Exit → Act → World → Prop} {md : Region.Mode} {S : World → Prop} {i j k : Nat} {fuel : Nat} {listed : Array Bool} {a : Act} {w : World} (hr : Region.ready md ops listed = [i, j, k]) (h1 : wpOp P ops Q i (fun a' w' => S w' ∧ wpAnyH P md ops Q S fuel (listed.setIfInBounds i true) a' w') a w)
    (h2 : wpOp P ops Q j (fun a' w' => S w' ∧ wpAnyH P md ops Q S fuel (listed.setIfInBounds j true) a' w') a w) (h3 : wpOp P ops Q k (fun a' w' => S w' ∧ wpAnyH P md ops Q S fuel (listed.setIfInBounds k true) a' w') a w) : wpAnyH P md ops Q S (fuel + 1) listed a w := by
  refine wpAnyH_all hr (by simp) fun m hm => ?_
  rcases List.mem_cons.1 hm with rfl | hm
  · exact h1
  · rcases List.mem_cons.1 hm with rfl | hm
    · exact h2
    · obtain rfl : m = k := by simpa using hm
      exact h3
end Go.Proofs.Ytbamdilihpnhjaa.Hop
