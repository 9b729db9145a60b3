/-
  Regions that draw their order, walked by hand: an operation that yields the same in every world of a class is taken first, one that stands alone is carried out. Nothing here names a program.
-/
import Derived.OrdersHeld
import Derived.Deep.Draws
import Derived.Laws.Tables
import Derived.Below
set_option linter.unusedSimpArgs false
set_option linter.unusedVariables false
namespace Go.Proofs.Ytbamdilihpnhjaa.Base
open Go.ChangeShapes Go.WideShapes Go.RowKit
set_option linter.unusedVariables false
section
variable {P : Program} {ops : Array Oper} {Q : Exit → Act → World → Prop} {md : Region.Mode} {S : World → Prop} {i : Nat} {oi : Oper} {v : Value} {fuel : Nat} {listed : Array Bool} {a : Act} {w w' : World}
/-- Take number i first: it yields v in every world of the class. -/
theorem held_take (hi : ops[i]? = some oi) (hs : Region.noSelect ops = true) (hf : Region.free md ops listed i = true) (hr : (Region.ready md ops listed).contains i = true) (hQ : ∀ c a w, Q (.panic c) (a.put oi.dst v) w → Q (.panic c) a w)
    (hw : Region.wanted oi (yielded ops a.tmps) = true) (hS : S w) (hv : ∀ u, S u → (execOp a.eval oi).run P u = .ok (.value v) u) (h : wpAnyH P md ops Q S fuel (listed.setIfInBounds i true) (a.put oi.dst v) w) : wpAnyH P md ops Q S (fuel + 1) listed a w :=
  wpAnyH_take hi hs hf hr hQ (Or.inl ⟨hw, hv⟩) hS h
/-- Take number i first: its guard passes over it. -/
theorem held_skip (hi : ops[i]? = some oi) (hs : Region.noSelect ops = true) (hf : Region.free md ops listed i = true) (hr : (Region.ready md ops listed).contains i = true) (hQ : ∀ c a w, Q (.panic c) (a.put oi.dst undef) w → Q (.panic c) a w)
    (hw : Region.wanted oi (yielded ops a.tmps) = false) (hS : S w) (h : wpAnyH P md ops Q S fuel (listed.setIfInBounds i true) (a.put oi.dst undef) w) : wpAnyH P md ops Q S (fuel + 1) listed a w :=
  wpAnyH_take hi hs hf hr hQ (Or.inr ⟨hw, rfl⟩) hS h
/-- Number i alone may come up: it yields v here, and may turn the world. -/
theorem held_one (hi : ops[i]? = some oi) (hr : Region.ready md ops listed = [i]) (hw : Region.wanted oi (yielded ops a.tmps) = true) (hv : (execOp a.eval oi).run P w = .ok (.value v) w') (hS : S w')
    (h : wpAnyH P md ops Q S fuel (listed.setIfInBounds i true) (a.put oi.dst v) w') : wpAnyH P md ops Q S (fuel + 1) listed a w := by
  refine wpAnyH_all hr (by simp) fun k hk => ?_
  obtain rfl : k = i := by simpa using hk
  unfold wpOp
  simp only [hi, hw, if_true, Oper.wp, hv, Oper.upon]
  exact .inl ⟨hS, h⟩
/-- Number i alone may come up: a call. -/
theorem held_call {f : FuncId} {args : Array Value} (hi : ops[i]? = some oi) (hr : Region.ready md ops listed = [i]) (hw : Region.wanted oi (yielded ops a.tmps) = true) (hv : (execOp a.eval oi).run P w = .ok (.enter f args) w)
    (h : Calls P f args w fun e w' => ∃ v, e = .returned v ∧ S w' ∧ wpAnyH P md ops Q S fuel (listed.setIfInBounds i true) (a.put oi.dst v) w') : wpAnyH P md ops Q S (fuel + 1) listed a w := by
  refine wpAnyH_all hr (by simp) fun k hk => ?_
  obtain rfl : k = i := by simpa using hk
  unfold wpOp
  simp only [hi, hw, if_true, Oper.wp, hv, Oper.upon]
  exact .inl (h.mono fun e w' ⟨v, he, hS, hh⟩ => by subst he; exact ⟨hS, hh⟩)
theorem held_start {id : Nat} (S : World → Prop) (hm : P.follows .mixedOrders = true) (h : wpAnyH P .any ops Q S ops.size (Array.replicate ops.size false) a w.drew) : (Code.region id ops true).wp P Q a w := wp_region_held (S := S) hm h
theorem held_done (hr : Region.ready md ops listed = []) (h : Q .normal a w) : wpAnyH P md ops Q S fuel listed a w := wpAnyH_done hr h fuel
/-- Take number i first, where its guard is not decided: it yields v where the guard's Bool is pol. -/
theorem held_if {k d : Nat} {ok : Oper} {b pol : Bool} (hi : ops[i]? = some oi) (hg : oi.guard = some (k, pol)) (hk : ops[k]? = some ok) (hd : ok.dst = some d) (hb : a.tmps[d]? = some (.bool b)) (hs : Region.noSelect ops = true) (hf : Region.free md ops listed i = true)
    (hr : (Region.ready md ops listed).contains i = true) (hQ : ∀ u c a w, Q (.panic c) (a.put oi.dst u) w → Q (.panic c) a w) (hS : S w) (hv : b = pol → ∀ u, S u → (execOp a.eval oi).run P u = .ok (.value v) u)
    (h : wpAnyH P md ops Q S fuel (listed.setIfInBounds i true) (a.put oi.dst (if b = pol then v else undef)) w) : wpAnyH P md ops Q S (fuel + 1) listed a w := by
  have hw : Region.wanted oi (yielded ops a.tmps) = decide (b = pol) := by
    unfold Region.wanted yielded
    rw [hg]
    simp only [hk, hd, Option.bind_some, hb]
    cases b <;> cases pol <;> rfl
  refine wpAnyH_take hi hs hf hr (hQ _) ?_ hS h
  by_cases hp : b = pol
  · rw [if_pos hp]
    exact Or.inl ⟨by rw [hw, decide_eq_true hp], hv hp⟩
  · rw [if_neg hp]
    exact Or.inr ⟨by rw [hw, decide_eq_false hp], rfl⟩
/-- .. the frame written out (by the kernel alone). -/
theorem held_done_as {a' : Act} (hr : Region.ready md ops listed = []) (he : a = a') (h : Q .normal a' w) : wpAnyH P md ops Q S fuel listed a w := by subst he; exact wpAnyH_done hr h fuel
/-- i waits for nothing that has not come up. -/
def readyOne (md : Region.Mode) (ops : Array Oper) (listed : Array Bool) (i : Nat) : Bool :=
  !listed.getD i true && match ops[i]? with
    | some oi => oi.after.all fun e => !Region.binds md e || listed.getD e.on false
    | none => false
/-- These may come up one behind the other. -/
def order (md : Region.Mode) (ops : Array Oper) : List Nat → Array Bool → Bool
  | [], _ => true
  | i :: r, listed => readyOne md ops listed i && order md ops r (listed.setIfInBounds i true)
/-- Of any two operations one waits for the other, or they are apart. -/
def apartAll (md : Region.Mode) (ops : Array Oper) : Bool :=
  ops.toList.zipIdx.all fun x => ops.toList.zipIdx.all fun y => x.2 == y.2 || (y.1.after.any fun e => Region.binds md e && e.on == x.2) || (x.1.after.any fun e => Region.binds md e && e.on == y.2) || x.1.apart ops y.1
theorem readyOne_spec (h : readyOne md ops listed i = true) : ∃ oi, ops[i]? = some oi ∧ listed.getD i true = false ∧ (∀ e ∈ oi.after, Region.binds md e = true → listed.getD e.on false = true) ∧ i ∈ Region.ready md ops listed := by
  unfold readyOne at h
  simp only [Bool.and_eq_true, Bool.not_eq_true'] at h
  obtain ⟨h1, h2⟩ := h
  cases ho : ops[i]? with
  | none => rw [ho] at h2; cases h2
  | some oi =>
    rw [ho] at h2
    have h3 : ∀ e ∈ oi.after, Region.binds md e = true → listed.getD e.on false = true := fun e he hb => by
      have := Array.all_eq_true'.1 h2 e he
      simpa [hb] using this
    refine ⟨oi, rfl, h1, h3, mem_ready.2 ⟨h1, oi, ho, h3⟩⟩
theorem apartAll_spec (h : apartAll md ops = true) {i j : Nat} {oi oj : Oper} (hi : ops[i]? = some oi) (hj : ops[j]? = some oj) (hne : j ≠ i) (h1 : ∀ e ∈ oj.after, Region.binds md e = true → e.on ≠ i) (h2 : ∀ e ∈ oi.after, Region.binds md e = true → e.on ≠ j) : oi.apart ops oj = true := by
  unfold apartAll at h
  have mi : (oi, i) ∈ ops.toList.zipIdx := List.mem_zipIdx_iff_getElem?.2 (by simpa using hi)
  have mj : (oj, j) ∈ ops.toList.zipIdx := List.mem_zipIdx_iff_getElem?.2 (by simpa using hj)
  have h3 := List.all_eq_true.1 (List.all_eq_true.1 h _ mi) _ mj
  simp only [Bool.or_eq_true, beq_iff_eq] at h3
  rcases h3 with ((h3 | h3) | h3) | h3
  · exact absurd h3.symm hne
  · obtain ⟨e, he, hb⟩ := Array.any_eq_true'.1 h3
    simp only [Bool.and_eq_true, beq_iff_eq] at hb
    exact absurd hb.2 (h1 e he hb.1)
  · obtain ⟨e, he, hb⟩ := Array.any_eq_true'.1 h3
    simp only [Bool.and_eq_true, beq_iff_eq] at hb
    exact absurd hb.2 (h2 e he hb.1)
  · exact h3
def marks : List Nat → Array Bool → Array Bool
  | [], listed => listed
  | i :: r, listed => marks r (listed.setIfInBounds i true)
/-- Each yields its value in every world of the class, behind those ahead of it. -/
def wpI (P : Program) (ops : Array Oper) (S : World → Prop) (K : Act → Prop) : List Nat → Act → Prop
  | [], a => K a
  | i :: r, a => ∃ oi v, ops[i]? = some oi ∧ YieldsIf P ops S oi v a ∧ wpI P ops S K r (a.put oi.dst v)
theorem held_many (hs : Region.noSelect ops = true) (hA : apartAll md ops = true) (hQ : ∀ c a d v w, Q (.panic c) (Act.put a d v) w → Q (.panic c) a w) (hS : S w) : ∀ (is : List Nat) (listed : Array Bool) (a : Act), order md ops is listed = true →
    wpI P ops S (fun a' => wpAnyH P md ops Q S fuel (marks is listed) a' w) is a → wpAnyH P md ops Q S (fuel + is.length) listed a w
  | [], _, _, _, h => h
  | i :: r, listed, a, ht, h => by
    obtain ⟨oi, v, hi, hy, hk⟩ := h
    simp only [order, Bool.and_eq_true] at ht
    obtain ⟨oi', hi', hun, haft, hr⟩ := readyOne_spec ht.1
    obtain rfl : oi = oi' := Option.some.inj (hi.symm.trans hi')
    refine wpAnyH_first hi (Region.noSelect_spec hs) (fun c a w => hQ c a _ _ w) (fuel + r.length) listed a w (fun j oj hj hji hjun hno => apartAll_spec hA hi hj hji hno fun e he hb hon => ?_) hr hy hS (held_many hs hA hQ hS r _ _ ht.2 hk)
    have h1 := haft e he hb
    rw [hon] at h1
    rcases Nat.lt_or_ge j listed.size with h' | h'
    · simp [h'] at h1 hjun
      rw [hjun] at h1
      cases h1
    · simp [Array.getElem?_eq_none h'] at h1
theorem i_take {K : Act → Prop} {r : List Nat} (hi : ops[i]? = some oi) (hw : Region.wanted oi (yielded ops a.tmps) = true) (hv : ∀ u, S u → (execOp a.eval oi).run P u = .ok (.value v) u) (h : wpI P ops S K r (a.put oi.dst v)) : wpI P ops S K (i :: r) a :=
  ⟨oi, v, hi, Or.inl ⟨hw, hv⟩, h⟩
theorem i_free {K : Act → Prop} {r : List Nat} (hi : ops[i]? = some oi) (hg : oi.guard = none) (hv : ∀ u, S u → (execOp a.eval oi).run P u = .ok (.value v) u) (h : wpI P ops S K r (a.put oi.dst v)) : wpI P ops S K (i :: r) a :=
  i_take hi (by unfold Region.wanted; rw [hg]) hv h
theorem i_if {K : Act → Prop} {r : List Nat} {k d : Nat} {ok : Oper} {b pol : Bool} (hi : ops[i]? = some oi) (hg : oi.guard = some (k, pol)) (hk : ops[k]? = some ok) (hd : ok.dst = some d) (hb : a.tmps[d]? = some (.bool b))
    (hv : b = pol → ∀ u, S u → (execOp a.eval oi).run P u = .ok (.value v) u) (h : wpI P ops S K r (a.put oi.dst (if b = pol then v else undef))) : wpI P ops S K (i :: r) a := by
  have hw : Region.wanted oi (yielded ops a.tmps) = decide (b = pol) := by
    unfold Region.wanted yielded
    rw [hg]
    simp only [hk, hd, Option.bind_some, hb]
    cases b <;> cases pol <;> rfl
  refine ⟨oi, _, hi, ?_, h⟩
  by_cases hp : b = pol
  · rw [if_pos hp]
    exact Or.inl ⟨by rw [hw, decide_eq_true hp], hv hp⟩
  · rw [if_neg hp]
    exact Or.inr ⟨by rw [hw, decide_eq_false hp], rfl⟩
/-- Either of two may come up. -/
theorem held_two {j : Nat} (hr : Region.ready md ops listed = [i, j]) (h1 : wpOp P ops Q i (fun a' w' => S w' ∧ wpAnyH P md ops Q S fuel (listed.setIfInBounds i true) a' w') a w) (h2 : wpOp P ops Q j (fun a' w' => S w' ∧ wpAnyH P md ops Q S fuel (listed.setIfInBounds j true) a' w') a w) :
    wpAnyH P md ops Q S (fuel + 1) listed a w := by
  refine wpAnyH_all hr (by simp) fun k hk => ?_
  rcases List.mem_cons.1 hk with rfl | hk
  · exact h1
  · obtain rfl : k = j := by simpa using hk
    exact h2
/-- One of them carried out: a value. -/
theorem op_value {K : Act → World → Prop} (hi : ops[i]? = some oi) (hw : Region.wanted oi (yielded ops a.tmps) = true) (hv : (execOp a.eval oi).run P w = .ok (.value v) w') (h : K (a.put oi.dst v) w') : wpOp P ops Q i K a w := by
  unfold wpOp
  simp only [hi, hw, if_true, Oper.wp, hv, Oper.upon]
  exact .inl h
/-- .. a call. -/
theorem op_call {K : Act → World → Prop} {f : FuncId} {args : Array Value} (hi : ops[i]? = some oi) (hw : Region.wanted oi (yielded ops a.tmps) = true) (hv : (execOp a.eval oi).run P w = .ok (.enter f args) w) (h : Calls P f args w fun e w' => ∃ v, e = .returned v ∧ K (a.put oi.dst v) w') : wpOp P ops Q i K a w := by
  unfold wpOp
  simp only [hi, hw, if_true, Oper.wp, hv, Oper.upon]
  exact .inl (h.mono fun e w' ⟨v, he, hh⟩ => by subst he; exact hh)
/-- Number i alone may come up: by a law of its own. -/
theorem held_wp (hi : ops[i]? = some oi) (hr : Region.ready md ops listed = [i]) (hw : Region.wanted oi (yielded ops a.tmps) = true) (h : oi.wp P a w (fun a' w' => S w' ∧ wpAnyH P md ops Q S fuel (listed.setIfInBounds i true) a' w') Q) : wpAnyH P md ops Q S (fuel + 1) listed a w := by
  refine wpAnyH_all hr (by simp) fun k hk => ?_
  obtain rfl : k = i := by simpa using hk
  unfold wpOp
  simp only [hi, hw, if_true]
  exact .inl h
/-- The last one, a store of a whole row of cells. -/
theorem held_row {ty t : TypeId} {x y : Operand} {g : Nat} {cells old : Array Value} (hi : ops[i]? = some oi) (hr : Region.ready md ops listed = [i]) (hw : Region.wanted oi (yielded ops a.tmps) = true) (ho : oi.op = .store ty x y) (hx : a.eval x = .pointer (some ⟨g, 0, none⟩)) (hy : a.eval y = .agg cells)
    (hg : w.heap[g]? = some (.cells old t)) (hz : (P.info? ty).map (·.size) = some cells.size) (hold : old.size = cells.size) (h1 : (cells.all fun x => x.oneCell') = true) (hS : S (w.setRow g cells))
    (h : wpAnyH P md ops Q S fuel (listed.setIfInBounds i true) (a.put oi.dst undef) (w.setRow g cells)) : wpAnyH P md ops Q S (fuel + 1) listed a w := by
  refine wpAnyH_all hr (by simp) fun k hk => ?_
  obtain rfl : k = i := by simpa using hk
  unfold wpOp
  simp only [hi, hw, if_true]
  exact .inl (wp_store_row ty x y ho g cells hx hy t old hg hz hold h1 ⟨hS, h⟩)
theorem held_cell {W : World} {b o : Nat} {u : Value} (h : Below W.heap.size W w) (hv : W.cell? ⟨b, o, none⟩ = some u) : w.cell? ⟨b, o, none⟩ = some u :=
  (h.cell (p := ⟨b, o, none⟩) (World.block_lt_of_cell? W _ hv)).trans hv
end
end Go.Proofs.Ytbamdilihpnhjaa.Base
