/-
  Whole structs read in a region that only reads: by their block, not cell by cell. Nothing here names a program.
-/
import Derived.Test.YtnnpklnhdfpnjaaMid
import Derived.Test.YtnnpklnhdfpnjaaIn
set_option linter.unusedSimpArgs false
set_option linter.unusedVariables false
namespace Go.Proofs.Ytnnpklnhdfpnjaa.Base
set_option linter.unusedVariables false
open Go.ChangeShapes Go.WideShapes Go.RowKit
section
variable {P : Program} {C : World → Prop} {K : Act → Prop} {a : Act}
theorem assign_of {dst : Option Nat} {t2 : TypeId} {pos : String} {after : Array Edge} {guard : Option (Nat × Bool)} {v : Value} (hC : ∃ w, C w) (h : Oper.quiet P { dst := dst, op := .assign (.const v), type := t2, pos := pos, after := after, guard := guard } a C K) : K (a.put dst v) := by
  obtain ⟨u, hu, hk⟩ := h
  obtain ⟨w0, h0⟩ := hC
  have h1 := hu w0 h0
  unfold Oper.quietAt at h1
  rw [BigFrame.run_assign _ rfl] at h1
  obtain ⟨_, e⟩ := h1
  have e' : v = u := e
  subst e'
  exact hk
/-- A load of a whole block. -/
theorem quiet_row {dst : Option Nat} {t2 : TypeId} {pos : String} {after : Array Edge} {guard : Option (Nat × Bool)} {ty : TypeId} {x : Operand} {g : Nat} {cs : Array Value} {t : TypeId} {d : TypeDesc} (hC : ∃ w, C w) (hx : a.eval x = .pointer (some ⟨g, 0, none⟩)) (hB : ∀ w, C w → Blk w g cs t)
    (hu : P.underlying ty = some d) (hd : (match d with | .struct _ | .array _ _ => true | _ => false) = true) (hi : (P.info? ty).map (·.size) = some cs.size)
    (h : Oper.quiet P { dst := dst, op := .assign (.const (.agg cs)), type := t2, pos := pos, after := after, guard := guard } a C K) : Oper.quiet P { dst := dst, op := .load ty x, type := t2, pos := pos, after := after, guard := guard } a C K := by
  refine ⟨.agg cs, fun w hw => ?_, assign_of hC h⟩
  unfold Oper.quietAt execOp
  simp only [hx, Instr.loadAt, Instr.sureAddr, Sem.run_bind, Sem.run_pure, Result.andThen_ok, run_loadVar_row w g t ty cs (0, 0) d (hB w hw) hu hd hi]
  exact ⟨rfl, rfl⟩
/-- A load of some of a block's cells. -/
theorem quiet_mid {dst : Option Nat} {t2 : TypeId} {pos : String} {after : Array Edge} {guard : Option (Nat × Bool)} {ty : TypeId} {x : Operand} {g i : Nat} {cs : List Value} {d : TypeDesc} (hC : ∃ w, C w) (hx : a.eval x = .pointer (some ⟨g, i, none⟩)) (hB : ∀ w, C w → w.rangeAt g i cs)
    (hu : P.underlying ty = some d) (hd : d.isRow = true) (hi : (P.info? ty).map (·.size) = some cs.length)
    (h : Oper.quiet P { dst := dst, op := .assign (.const (.agg cs.toArray)), type := t2, pos := pos, after := after, guard := guard } a C K) : Oper.quiet P { dst := dst, op := .load ty x, type := t2, pos := pos, after := after, guard := guard } a C K := by
  refine ⟨.agg cs.toArray, fun w hw => ?_, assign_of hC h⟩
  unfold Oper.quietAt execOp
  simp only [hx, Instr.loadAt, Instr.sureAddr, Sem.run_bind, Sem.run_pure, Result.andThen_ok, run_loadVar_mid w g i ty cs d (hB w hw) hu hd hi]
  exact ⟨rfl, rfl⟩
theorem ld_row {ρ : Operand → Value} {o : Oper} {u : World} (ty : TypeId) (x : Operand) (ho : o.op = .load ty x) {g : Nat} {cs : Array Value} {t : TypeId} {d : TypeDesc} (hx : ρ x = .pointer (some ⟨g, 0, none⟩)) (hB : Blk u g cs t)
    (hu : P.underlying ty = some d) (hd : (match d with | .struct _ | .array _ _ => true | _ => false) = true) (hi : (P.info? ty).map (·.size) = some cs.size) : (execOp ρ o).run P u = .ok (.value (.agg cs)) u := by
  unfold execOp
  simp only [ho, hx, Instr.loadAt, Instr.sureAddr, Sem.run_bind, Sem.run_pure, Result.andThen_ok, run_loadVar_row u g t ty cs (0, 0) d hB hu hd hi]
/-- Any operation that yields the same in every world of the class. -/
theorem quiet_val {dst : Option Nat} {t2 : TypeId} {pos : String} {after : Array Edge} {guard : Option (Nat × Bool)} {op : Op} {v : Value} (hC : ∃ w, C w) (hr : ∀ w, C w → (execOp a.eval { dst := dst, op := op, type := t2, pos := pos, after := after, guard := guard }).run P w = .ok (.value v) w)
    (h : Oper.quiet P { dst := dst, op := .assign (.const v), type := t2, pos := pos, after := after, guard := guard } a C K) : Oper.quiet P { dst := dst, op := op, type := t2, pos := pos, after := after, guard := guard } a C K := by
  refine ⟨v, fun w hw => ?_, assign_of hC h⟩
  unfold Oper.quietAt
  rw [hr w hw]
  exact ⟨rfl, rfl⟩
/-- An operation whose guard is decided: its value. -/
theorem wpl_val {ops : Array Oper} {rest : List Oper} {o : Oper} {a : Act} {Q : Exit → Act → World → Prop} {w : World} {v : Value} (hw : Region.wanted o (yielded ops a.tmps) = true) (hr : (execOp a.eval o).run P w = .ok (.value v) w) (h : wpList P ops Q rest (a.put o.dst v) w) : wpList P ops Q (o :: rest) a w :=
  wpList_step fun _ hK => by
    rw [if_pos hw]
    unfold Oper.wp
    rw [hr]
    exact hK _ _ h
/-- The class of the worlds behind W: a block there. -/
theorem in_blk {W : World} {g : Nat} {cs : Array Value} {t : TypeId} (h : Blk W g cs t) : ∀ w, (∃ p : In (Lt W), w = p.w) → Blk w g cs t := fun w ⟨p, e⟩ => by
  subst e
  exact h.below p.h h.lt
theorem in_some (W : World) : ∃ w, ∃ p : In (Lt W), w = p.w := ⟨W, ⟨W, Lt.refl W⟩, rfl⟩
end
end Go.Proofs.Ytnnpklnhdfpnjaa.Base
