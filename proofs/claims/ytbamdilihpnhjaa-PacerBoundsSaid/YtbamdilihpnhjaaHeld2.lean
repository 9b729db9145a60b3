/-
  Walks by hand of a region that draws its order (XHeld), the slot that an operation writes told by its number: so the frame stays short, and is written out by List.set alone. Nothing here names a program.
-/
import Derived.Test.YtbamdilihpnhjaaHeld
set_option linter.unusedSimpArgs false
set_option linter.unusedVariables false
namespace Go.Proofs.Ytbamdilihpnhjaa.Base
set_option linter.unusedVariables false
open Go.ChangeShapes Go.WideShapes Go.RowKit
section
variable {P : Program} {ops : Array Oper} {Q : Exit → Act → World → Prop} {md : Region.Mode} {S : World → Prop} {i : Nat} {oi : Oper} {fuel : Nat} {listed : Array Bool} {a : Act} {w w' : World} {v : Value}
/-- Number i first: it yields v in every world of the class, into slot d. -/
theorem h2_take (d : Nat) (hi : ops[i]? = some oi) (hd : oi.dst = some d) (hs : Region.noSelect ops = true) (hf : Region.free md ops listed i = true) (hr : (Region.ready md ops listed).contains i = true) (hQ : ∀ c a w, Q (.panic c) (a.put (some d) v) w → Q (.panic c) a w)
    (hw : Region.wanted oi (yielded ops a.tmps) = true) (hS : S w) (hv : ∀ u, S u → (execOp a.eval oi).run P u = .ok (.value v) u) (h : wpAnyH P md ops Q S fuel (listed.setIfInBounds i true) (a.put (some d) v) w) : wpAnyH P md ops Q S (fuel + 1) listed a w := by
  rw [← hd] at h hQ
  exact held_take hi hs hf hr hQ hw hS hv h
/-- Number i alone may come up: it yields v here, and may turn the world. -/
theorem h2_one (d : Nat) (hi : ops[i]? = some oi) (hd : oi.dst = some d) (hr : Region.ready md ops listed = [i]) (hw : Region.wanted oi (yielded ops a.tmps) = true) (hv : (execOp a.eval oi).run P w = .ok (.value v) w') (hS : S w')
    (h : wpAnyH P md ops Q S fuel (listed.setIfInBounds i true) (a.put (some d) v) w') : wpAnyH P md ops Q S (fuel + 1) listed a w := by
  rw [← hd] at h
  exact held_one hi hr hw hv hS h
theorem h2_call (d : Nat) {f : FuncId} {args : Array Value} (hi : ops[i]? = some oi) (hd : oi.dst = some d) (hr : Region.ready md ops listed = [i]) (hw : Region.wanted oi (yielded ops a.tmps) = true) (hv : (execOp a.eval oi).run P w = .ok (.enter f args) w)
    (h : Calls P f args w fun e w' => ∃ v, e = .returned v ∧ S w' ∧ wpAnyH P md ops Q S fuel (listed.setIfInBounds i true) (a.put (some d) v) w') : wpAnyH P md ops Q S (fuel + 1) listed a w := by
  rw [← hd] at h
  exact held_call hi hr hw hv h
/-- Number i alone may come up: a store. -/
theorem h2_st (hi : ops[i]? = some oi) (hd : oi.dst = none) (hr : Region.ready md ops listed = [i]) (hw : Region.wanted oi (yielded ops a.tmps) = true) (hv : (execOp a.eval oi).run P w = .ok .skip w') (hS : S w')
    (h : wpAnyH P md ops Q S fuel (listed.setIfInBounds i true) a w') : wpAnyH P md ops Q S (fuel + 1) listed a w := by
  refine wpAnyH_all hr (by simp) fun k hk => ?_
  obtain rfl : k = i := by simpa using hk
  have e : a.put oi.dst undef = a := by rw [hd]; rfl
  unfold wpOp
  simp only [hi, hw, if_true, Oper.wp, hv, Oper.upon, e]
  exact .inl ⟨hS, h⟩
/-- Number i alone may come up: by its own law. -/
theorem h2_wp (d : Nat) (hi : ops[i]? = some oi) (hd : oi.dst = some d) (hr : Region.ready md ops listed = [i]) (hw : Region.wanted oi (yielded ops a.tmps) = true) (h : oi.wp P a w (fun a' w' => S w' ∧ wpAnyH P md ops Q S fuel (listed.setIfInBounds i true) a' w') Q) : wpAnyH P md ops Q S (fuel + 1) listed a w :=
  held_wp hi hr hw h
theorem o2_value {K : Act → World → Prop} (d : Nat) (hi : ops[i]? = some oi) (hd : oi.dst = some d) (hw : Region.wanted oi (yielded ops a.tmps) = true) (hv : (execOp a.eval oi).run P w = .ok (.value v) w') (h : K (a.put (some d) v) w') : wpOp P ops Q i K a w := by
  rw [← hd] at h
  exact op_value hi hw hv h
theorem o2_call {K : Act → World → Prop} (d : Nat) {f : FuncId} {args : Array Value} (hi : ops[i]? = some oi) (hd : oi.dst = some d) (hw : Region.wanted oi (yielded ops a.tmps) = true) (hv : (execOp a.eval oi).run P w = .ok (.enter f args) w) (h : Calls P f args w fun e w' => ∃ v, e = .returned v ∧ K (a.put (some d) v) w') : wpOp P ops Q i K a w := by
  rw [← hd] at h
  exact op_call hi hw hv h
theorem o2_wp {K : Act → World → Prop} (hi : ops[i]? = some oi) (hw : Region.wanted oi (yielded ops a.tmps) = true) (h : oi.wp P a w K Q) : wpOp P ops Q i K a w := by
  unfold wpOp
  simp only [hi, hw, if_true]
  exact .inl h
theorem h2_three {j k : Nat} (hr : Region.ready md ops listed = [i, j, k]) (h1 : wpOp P ops Q i (fun a' w' => S w' ∧ wpAnyH P md ops Q S fuel (listed.setIfInBounds i true) a' w') a w)
    (h2 : wpOp P ops Q j (fun a' w' => S w' ∧ wpAnyH P md ops Q S fuel (listed.setIfInBounds j true) a' w') a w) (h3 : wpOp P ops Q k (fun a' w' => S w' ∧ wpAnyH P md ops Q S fuel (listed.setIfInBounds k true) a' w') a w) : wpAnyH P md ops Q S (fuel + 1) listed a w := by
  refine wpAnyH_all hr (by simp) fun m hm => ?_
  rcases List.mem_cons.1 hm with rfl | hm
  · exact h1
  · rcases List.mem_cons.1 hm with rfl | hm
    · exact h2
    · obtain rfl : m = k := by simpa using hm
      exact h3
/-- A statement by what it leaves: its frame told by the one that it began with. Where the last statement of a block cannot be cut around. -/
theorem wp_fin {c : Code} {Q : Exit → Act → World → Prop} (G : Act → Act → World → Prop) (h1 : c.wp P (fun e a' w' => e = .normal ∧ G a a' w') a w) (h2 : ∀ a' w', G a a' w' → Q .normal a' w') : c.wp P Q a w :=
  wp_mono h1 (fun e a' w' ⟨he, h⟩ => by subst he; exact h2 a' w' h)
/-- What an operation's own law goes on with, its slot told. -/
theorem put_at {K : Act → World → Prop} {o : Oper} {d : Nat} (hd : o.dst = some d) (h : K (a.put (some d) v) w) : K (a.put o.dst v) w := by rw [hd]; exact h
end
end Go.Proofs.Ytbamdilihpnhjaa.Base
