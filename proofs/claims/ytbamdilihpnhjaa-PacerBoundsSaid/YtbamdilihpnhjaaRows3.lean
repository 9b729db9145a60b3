/-
  Three rows of words that a call makes side by side by append: one statement appends to each of them, in a region that draws its order.
-/
import Derived.Test.YtbamdilihpnhjaaBudRow
import Derived.Test.YtbamdilihpnhjaaHeld2
set_option linter.unusedSimpArgs false
set_option linter.unusedVariables false
namespace Go.Proofs.Ytbamdilihpnhjaa.Base
set_option linter.unusedVariables false
set_option maxRecDepth 20000
open Go.ChangeShapes Go.WideShapes Go.ChangeAt Go.RowKit

/-- One word more, wherever it lies. -/
theorem wp_addR (d : Nat) {o : Oper} {a : Act} {K : Act → World → Prop} {Q : Exit → Act → World → Prop} {W : World} (hd : o.dst = some d) (s : Int) (x z : Operand)
    (ho : o.op = .call { callee := .builtin .append, args := #[x, z], argTypes := #[36, 36] })
    {v : Value} {l : List Int} (hs : a.eval x = v) (hown : OwnU W v l) {b : Option Addr} (hz : a.eval z = .slice b 1 1) (hr : Ints .u64 W b [s]) (hl : l.length + 1 ≤ 1000000000000)
    (h : ∀ v' w', AddedU W v (l ++ [s]) v' w' → K (a.put (some d) v') w') : o.wp Try.prog a W K Q := by
  rw [← hd] at h
  obtain ⟨i0, hi0, hz0, hz1, hz2⟩ := info_parts infoU
  refine wp_append_row _ x z _ ho 0 22 i0 _ 1 8 Try.underlying36 hi0 hz0 hz1 hz2 rfl (by omega) v l.length (words l) hs hown b 1 1 [.int .u64 s] hz rfl hr (by simp [Value.oneCell']) (by unfold maxLen; omega) (by omega) (Nat.zero_le _) ?_
  intro v' w' hown' hg hat
  have hown2 : OwnU w' v' (l ++ [s]) := by
    unfold OwnU
    rw [List.length_append, show words (l ++ [s]) = words l ++ [.int .u64 s] by simp [words]]
    exact hown'
  refine h v' w' ⟨hown2, Fr.of_grown hg fun k hk => hk, fun k hk => ?_, hg.size⟩
  rcases hat with h1 | h1
  · exact Or.inl (by rw [← h1]; exact hk)
  · refine Or.inr ⟨?_, hown2.lt hk⟩
    rw [h1] at hk
    injection hk with hk
    omega
theorem lit_one {ρ : Operand → Value} {o : Oper} {u : World} (x : Operand) (ho : o.op = .buildSlice 36 1 #[(0, x)]) {n : Int} (hx : ρ x = .int .u64 n) :
    (execOp ρ o).run Try.prog u = .ok (.value (.slice (some ⟨u.heap.size, 0, none⟩) 1 1)) (u.alloc (.cells #[.int .u64 n] 22)) := by
  unfold execOp
  rw [ho]
  simp [hx, go_sem]
/-- A slice literal of one, as an operation that may come up: its block a variable. -/
theorem o2_lit {ops : Array Oper} {Q : Exit → Act → World → Prop} {i : Nat} {oi : Oper} {K : Act → World → Prop} {a : Act} {w : World} (d : Nat) (x : Operand) (hi : ops[i]? = some oi) (hd : oi.dst = some d) (hw : Region.wanted oi (yielded ops a.tmps) = true) (ho : oi.op = .buildSlice 36 1 #[(0, x)]) {n : Int} (hx : a.eval x = .int .u64 n)
    (h : ∀ g V, g = w.heap.size → Below w.heap.size w V → Blk V g #[.int .u64 n] 22 → K (a.put (some d) (.slice (some ⟨g, 0, none⟩) 1 1)) V) : wpOp Try.prog ops Q i K a w :=
  o2_value d hi hd hw (lit_one x ho hx) (h _ _ rfl ((Below.refl _ _).alloc (Nat.le_refl _) _) (Blk.new _ _ _))
theorem h2_lit {ops : Array Oper} {Q : Exit → Act → World → Prop} {md : Region.Mode} {S : World → Prop} {i : Nat} {oi : Oper} {fuel : Nat} {listed : Array Bool} {a : Act} {w : World} (d : Nat) (x : Operand) (hi : ops[i]? = some oi) (hd : oi.dst = some d) (hr : Region.ready md ops listed = [i]) (hw : Region.wanted oi (yielded ops a.tmps) = true) (ho : oi.op = .buildSlice 36 1 #[(0, x)]) {n : Int} (hx : a.eval x = .int .u64 n)
    (h : ∀ g V, g = w.heap.size → Below w.heap.size w V → Blk V g #[.int .u64 n] 22 → S V ∧ wpAnyH Try.prog md ops Q S fuel (listed.setIfInBounds i true) (a.put (some d) (.slice (some ⟨g, 0, none⟩) 1 1)) V) : wpAnyH Try.prog md ops Q S (fuel + 1) listed a w :=
  h2_one d hi hd hr hw (lit_one x ho hx) (h _ _ rfl ((Below.refl _ _).alloc (Nat.le_refl _) _) (Blk.new _ _ _)).1 (h _ _ rfl ((Below.refl _ _).alloc (Nat.le_refl _) _) (Blk.new _ _ _)).2
theorem Row.lit_at {w : World} {g : Nat} {v : Value} {T : TypeId} (h : Blk w g #[v] T) : Row w (some ⟨g, 0, none⟩) [v] := fun j u hj => ⟨g, 0, rfl, h.lt, by
  rw [h.cell]
  rcases j with _ | j
  · exact hj
  · simp at hj⟩
/-- Three rows, apart from each other, in blocks that are the call's own; what was there at first is as it was. -/
structure Rows3 (w0 w : World) (v1 v2 v3 : Value) (l1 l2 l3 : List Int) : Prop where
  o1 : OwnU w v1 l1
  o2 : OwnU w v2 l2
  o3 : OwnU w v3 l3
  n1 : ∀ k, v1.ownBlock = some k → w0.heap.size ≤ k
  n2 : ∀ k, v2.ownBlock = some k → w0.heap.size ≤ k
  n3 : ∀ k, v3.ownBlock = some k → w0.heap.size ≤ k
  a12 : ∀ k, v1.ownBlock = some k → ¬ v2.ownBlock = some k
  a13 : ∀ k, v1.ownBlock = some k → ¬ v3.ownBlock = some k
  a23 : ∀ k, v2.ownBlock = some k → ¬ v3.ownBlock = some k
/-- The block b lies outside the three rows. -/
def Out3 (v1 v2 v3 : Value) (b : Nat) : Prop := ¬ v1.ownBlock = some b ∧ ¬ v2.ownBlock = some b ∧ ¬ v3.ownBlock = some b
section
variable {w0 w : World} {v1 v2 v3 : Value} {l1 l2 l3 : List Int}
theorem Rows3.nil (w0 w : World) : Rows3 w0 w (.slice none 0 0) (.slice none 0 0) (.slice none 0 0) [] [] [] := by
  constructor
  · exact OwnU.nil _
  · exact OwnU.nil _
  · exact OwnU.nil _
  all_goals
    intro k hk
    simp [Value.ownBlock] at hk
theorem Rows3.below (h : Rows3 w0 w v1 v2 v3 l1 l2 l3) {w' : World} (hb : Below w.heap.size w w') : Rows3 w0 w' v1 v2 v3 l1 l2 l3 := by
  have F : Fr (fun _ => False) w w' := Fr.of_below hb
  exact ⟨h.o1.kept F fun _ _ h => h, h.o2.kept F fun _ _ h => h, h.o3.kept F fun _ _ h => h, h.n1, h.n2, h.n3, h.a12, h.a13, h.a23⟩
/-- A block that lies outside them may turn. -/
theorem Rows3.kept (h : Rows3 w0 w v1 v2 v3 l1 l2 l3) {w' : World} {b : Nat} (hf : Fr (fun k => k = b) w w') (hb : Out3 v1 v2 v3 b) : Rows3 w0 w' v1 v2 v3 l1 l2 l3 :=
  ⟨h.o1.kept hf fun k hk e => hb.1 (by subst e; exact hk), h.o2.kept hf fun k hk e => hb.2.1 (by subst e; exact hk), h.o3.kept hf fun k hk e => hb.2.2 (by subst e; exact hk), h.n1, h.n2, h.n3, h.a12, h.a13, h.a23⟩
theorem out3_lt (h : Rows3 w0 w v1 v2 v3 l1 l2 l3) {b : Nat} (hb : w.heap.size ≤ b) : Out3 v1 v2 v3 b :=
  ⟨fun e => by have := h.o1.lt e; omega, fun e => by have := h.o2.lt e; omega, fun e => by have := h.o3.lt e; omega⟩
theorem out3_below (h : Rows3 w0 w v1 v2 v3 l1 l2 l3) {b : Nat} (hb : b < w0.heap.size) : Out3 v1 v2 v3 b :=
  ⟨fun e => by have := h.n1 _ e; omega, fun e => by have := h.n2 _ e; omega, fun e => by have := h.n3 _ e; omega⟩
/-- What an append to the first leaves of all three, of what lies outside, and of what was there at first. -/
theorem Rows3.add1 (h : Rows3 w0 w v1 v2 v3 l1 l2 l3) (h0 : w0.heap.size ≤ w.heap.size) {v' : Value} {w' : World} {s : Int} (A : AddedU w v1 (l1 ++ [s]) v' w') :
    Rows3 w0 w' v' v2 v3 (l1 ++ [s]) l2 l3 ∧ (∀ b, b < w.heap.size → Out3 v1 v2 v3 b → w'.heap[b]? = w.heap[b]? ∧ Out3 v' v2 v3 b) ∧ Below w0.heap.size w w' := by
  have hn : ∀ k, v'.ownBlock = some k → w0.heap.size ≤ k := fun k hk => by
    rcases A.at_ k hk with q | q
    · exact h.n1 k q
    · omega
  have hx : ∀ k b, v'.ownBlock = some k → b < w.heap.size → ¬ v1.ownBlock = some b → k ≠ b := fun k b hk hb hq e => by
    subst e
    rcases A.at_ k hk with q | q
    · exact hq q
    · omega
  refine ⟨⟨A.own, h.o2.kept A.fr fun g hg e => h.a12 g e hg, h.o3.kept A.fr fun g hg e => h.a13 g e hg, hn, h.n2, h.n3, fun k hk e => hx k k hk (h.o2.lt e) (fun q => h.a12 k q e) rfl, fun k hk e => hx k k hk (h.o3.lt e) (fun q => h.a13 k q e) rfl, h.a23⟩, fun b hb hO => ⟨A.fr.block b hb hO.1, fun e => hx b b e hb hO.1 rfl, hO.2⟩, A.fr.toBelow h0 fun k hk => h.n1 k hk⟩
theorem Rows3.turn (h : Rows3 w0 w v1 v2 v3 l1 l2 l3) : Rows3 w0 w v2 v3 v1 l2 l3 l1 :=
  ⟨h.o2, h.o3, h.o1, h.n2, h.n3, h.n1, h.a23, fun k hk e => h.a12 k e hk, fun k hk e => h.a13 k e hk⟩
theorem Rows3.add2 (h : Rows3 w0 w v1 v2 v3 l1 l2 l3) (h0 : w0.heap.size ≤ w.heap.size) {v' : Value} {w' : World} {s : Int} (A : AddedU w v2 (l2 ++ [s]) v' w') :
    Rows3 w0 w' v1 v' v3 l1 (l2 ++ [s]) l3 ∧ (∀ b, b < w.heap.size → Out3 v1 v2 v3 b → w'.heap[b]? = w.heap[b]? ∧ Out3 v1 v' v3 b) ∧ Below w0.heap.size w w' := by
  obtain ⟨q1, q2, q3⟩ := h.turn.add1 h0 A
  exact ⟨q1.turn.turn, fun b hb hO => by
    obtain ⟨e1, e2⟩ := q2 b hb ⟨hO.2.1, hO.2.2, hO.1⟩
    exact ⟨e1, e2.2.2, e2.1, e2.2.1⟩, q3⟩
theorem Rows3.add3 (h : Rows3 w0 w v1 v2 v3 l1 l2 l3) (h0 : w0.heap.size ≤ w.heap.size) {v' : Value} {w' : World} {s : Int} (A : AddedU w v3 (l3 ++ [s]) v' w') :
    Rows3 w0 w' v1 v2 v' l1 l2 (l3 ++ [s]) ∧ (∀ b, b < w.heap.size → Out3 v1 v2 v3 b → w'.heap[b]? = w.heap[b]? ∧ Out3 v1 v2 v' b) ∧ Below w0.heap.size w w' := by
  obtain ⟨q1, q2, q3⟩ := h.turn.turn.add1 h0 A
  exact ⟨q1.turn, fun b hb hO => by
    obtain ⟨e1, e2⟩ := q2 b hb ⟨hO.2.2, hO.1, hO.2.1⟩
    exact ⟨e1, e2.2.1, e2.2.2, e2.1⟩, q3⟩
end
end Go.Proofs.Ytbamdilihpnhjaa.Base
