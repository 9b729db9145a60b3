/-
  Several texts in one: SpanRow, AckRow.
-/
import Derived.Test.YtkiloaebokkjbaaGreatM2
import Derived.Test.YtkiloaebokkjbaaGreatSpanPlain
import Derived.Test.YtkiloaebokkjbaaGreatIn
import Derived.Deep.SlicePairs
import Derived.Lib.SmallJoins
import Derived.Test.YtkiloaebokkjbaaGreatM1
import Derived.Test.YtkiloaebokkjbaaGreatM3
/-
  Slices of spans, and spans by value: what a walk knows of them. Nothing here names a program.
-/
set_option linter.unusedSimpArgs false
set_option linter.unusedVariables false
namespace Go.Proofs.YtkiloaebokkjbaaGreat.Base
set_option linter.unusedVariables false
open Go.ChangeShapes Go.WideShapes Go.RowKit
open Go.Proofs.YtkiloaebokkjbaaGreat.SpanPlain

def cells (s : Sp) : List Value := [.int .u64 s.1, .int .u64 s.2]
def flat (l : List Sp) : List Value := l.flatMap cells
theorem flat_nil : flat [] = [] := rfl
theorem flat_cons (s : Sp) (l : List Sp) : flat (s :: l) = .int .u64 s.1 :: .int .u64 s.2 :: flat l := rfl
theorem flat_append (l m : List Sp) : flat (l ++ m) = flat l ++ flat m := List.flatMap_append
theorem flat_len : ∀ l : List Sp, (flat l).length = l.length * 2
  | [] => rfl
  | s :: l => by rw [flat_cons, List.length_cons, List.length_cons, flat_len l, List.length_cons]; omega
theorem flat_one (l : List Sp) : ∀ u ∈ flat l, u.oneCell' = true := fun u hu => by
  obtain ⟨s, _, hs⟩ := List.mem_flatMap.1 hu
  rcases List.mem_cons.1 hs with rfl | hs
  · rfl
  · rcases List.mem_cons.1 hs with rfl | hs
    · rfl
    · cases hs
theorem flat_lo : ∀ {l : List Sp} {i : Nat}, i < l.length → (flat l)[i * 2]? = some (.int .u64 (l.getD i (0, 0)).1)
  | s :: l, 0, _ => rfl
  | s :: l, i + 1, h => by
    rw [flat_cons, show (i + 1) * 2 = i * 2 + 1 + 1 by omega, List.getElem?_cons_succ, List.getElem?_cons_succ, flat_lo (by simpa using h)]
    rfl
theorem flat_hi : ∀ {l : List Sp} {i : Nat}, i < l.length → (flat l)[i * 2 + 1]? = some (.int .u64 (l.getD i (0, 0)).2)
  | s :: l, 0, _ => rfl
  | s :: l, i + 1, h => by
    rw [flat_cons, show (i + 1) * 2 + 1 = i * 2 + 1 + 1 + 1 by omega, List.getElem?_cons_succ, List.getElem?_cons_succ, flat_hi (by simpa using h)]
    rfl
theorem flat_take (l : List Sp) (n : Nat) : flat (l.take n) = (flat l).take (n * 2) := by
  induction l generalizing n with
  | nil => simp [flat_nil]
  | cons s l ih =>
    cases n with
    | zero => simp [flat_nil]
    | succ n => rw [List.take_succ_cons, flat_cons, flat_cons, ih, show (n + 1) * 2 = n * 2 + 1 + 1 by omega, List.take_succ_cons, List.take_succ_cons]
theorem flat_drop (l : List Sp) (n : Nat) : flat (l.drop n) = (flat l).drop (n * 2) := by
  induction l generalizing n with
  | nil => simp [flat_nil]
  | cons s l ih =>
    cases n with
    | zero => simp
    | succ n => rw [List.drop_succ_cons, flat_cons, ih, show (n + 1) * 2 = n * 2 + 1 + 1 by omega, List.drop_succ_cons, List.drop_succ_cons]
/-- Spans from the pointer a on. -/
def Spans (w : World) (a : Option Addr) (l : List Sp) : Prop := Row w a (flat l)
theorem Spans.nil (w : World) (a : Option Addr) : Spans w a [] := Row.nil _ _
theorem Spans.below {w w' : World} {a : Option Addr} {l : List Sp} (h : Spans w a l) (hb : Below w.heap.size w w') : Spans w' a l := Row.below h hb
theorem Spans.drew {w : World} {a : Option Addr} {l : List Sp} (h : Spans w a l) : Spans w.drew a l := h
theorem Spans.drewN {w : World} {a : Option Addr} {l : List Sp} (h : Spans w a l) (n : Nat) : Spans (w.drewN n) a l := h
theorem Spans.of {w : World} {a : Option Addr} {l : List Sp} {xs : List Value} (h : Row w a xs) (e : xs = flat l) : Spans w a l := by subst e; exact h
theorem Spans.take {w : World} {a : Option Addr} {l : List Sp} (h : Spans w a l) (n : Nat) : Spans w a (l.take n) := by
  unfold Spans
  rw [flat_take]
  exact Row.take h _
theorem Spans.at_ {w : World} {a : Option Addr} {l : List Sp} (h : Spans w a l) {i : Nat} (hi : i < l.length) :
    ∃ b off, a = some ⟨b, off, none⟩ ∧ b < w.heap.size ∧ w.cell? ⟨b, off + i * 2, none⟩ = some (.int .u64 (l.getD i (0, 0)).1) ∧ w.cell? ⟨b, off + i * 2 + 1, none⟩ = some (.int .u64 (l.getD i (0, 0)).2) := by
  obtain ⟨b, off, rfl, hb, hc⟩ := h _ _ (flat_lo hi)
  obtain ⟨b', off', e, _, hc'⟩ := h _ _ (flat_hi hi)
  cases e
  exact ⟨b, off, rfl, hb, hc, by rw [Nat.add_assoc]; exact hc'⟩
theorem Spans.drop {w : World} {b off : Nat} {l : List Sp} (h : Spans w (some ⟨b, off, none⟩) l) (n : Nat) : Spans w (some ⟨b, off + n * 2, none⟩) (l.drop n) := by
  unfold Spans
  rw [flat_drop]
  exact ((RowIn.drop (Row.in_ h) (n * 2))).row

/-- A world behind a box that holds a span: what its walk reads. -/
theorem boxed {a w : World} {B : Nat} (h : Below B a w) (hB : B ≤ w.heap.size) (x y : Value) (T : TypeId) :
    (w.alloc (.cells #[x, y] T)).cell? ⟨w.heap.size, 0, none⟩ = some x ∧ (w.alloc (.cells #[x, y] T)).cell? ⟨w.heap.size, 1, none⟩ = some y ∧ (w.alloc (.cells #[x, y] T)).heap.size = w.heap.size + 1 ∧ Below B a (w.alloc (.cells #[x, y] T)) ∧
      (∀ b o v, w.cell? ⟨b, o, none⟩ = some v → (w.alloc (.cells #[x, y] T)).cell? ⟨b, o, none⟩ = some v ∧ b < w.heap.size + 1) :=
  ⟨by simp [World.cell?_alloc_new], by simp [World.cell?_alloc_new], by simp, h.alloc hB _, fun b o v hv => by
    have hlt := World.block_lt_of_cell? w _ hv
    exact ⟨by rw [World.cell?_alloc_lt w _ ⟨b, o, none⟩ hlt]; exact hv, by simp only at hlt; omega⟩⟩
theorem keep_cell {W w : World} (h : Below W.heap.size W w) {b o : Nat} {v : Value} (hv : W.cell? ⟨b, o, none⟩ = some v) : w.cell? ⟨b, o, none⟩ = some v := by
  rw [h.cell (World.block_lt_of_cell? W _ hv)]
  exact hv
theorem In.cell {W : World} (p : In (Lt W)) {b o : Nat} {v : Value} (hv : W.cell? ⟨b, o, none⟩ = some v) : p.w.cell? ⟨b, o, none⟩ = some v := keep_cell p.h hv
def numV : Value → Int
  | .int _ n => n
  | _ => 0
section
variable {H : Type} {enc : TypeId × Value → H} {P : Program} {w : World} {base : Nat} {held : Bool}
/-- A slice of spans that came in. -/
theorem open_spans {t e : TypeId} {f0 f1 : Field} {fuel : Nat} {cs : List Value} {x : DataW H × List MemPlace} (ht : P.underlying t = some (.slice e)) (he : P.underlying e = some (.struct #[f0, f1]))
    (ce : P.cellsOf e = 2) (o0 : f0.offset = 0) (o1 : f1.offset = 1) (c0 : P.cellsOf f0.type = 1) (c1 : P.cellsOf f1.type = 1)
    (u0 : P.underlying f0.type = some (.int .u64)) (u1 : P.underlying f1.type = some (.int .u64))
    (h : DataW.trod enc P w base (fun _ => true) held fuel t cs = some x) :
    (cs = [.slice none 0 0] ∧ x = (.nil, [])) ∨
    ∃ (a : Addr) (len cap : Nat) (zs : List Sp) (E S : List (DataW H)), cs = [.slice (some a) len cap] ∧ len ≤ cap ∧ cap ≤ maxLen ∧ zs.length = len ∧ x.1 = .slice E S ∧ E.length = len ∧ S.length = cap - len ∧
      Spans w (some a) zs ∧ (∀ s ∈ zs, (Lit.int .u64 s.1).wf = true ∧ (Lit.int .u64 s.2).wf = true) := by
  rcases Go.Deep.open_slice_pairs ht he ce o0 o1 c0 c1 h with h0 | ⟨a, len, cap, m, n, V0, V1, D0, D1, P0, P1, rfl, hb, hl, hm, hmm, rfl, hx⟩
  · exact Or.inl h0
  right
  simp only [if_true] at hmm
  subst hmm
  have each : ∀ i, i < m → w.cell? (a.add (i * 2)) = some (.int .u64 (numV (V0 i))) ∧ w.cell? (a.add (i * 2 + 1)) = some (.int .u64 (numV (V1 i))) ∧ (Lit.int .u64 (numV (V0 i))).wf = true ∧ (Lit.int .u64 (numV (V1 i))).wf = true := fun i hi => by
    obtain ⟨h1, h2, h3, h4⟩ := hx i hi
    obtain ⟨p, e1, _, g1⟩ := DataW.trod_int u0 h3
    obtain ⟨q, e2, _, g2⟩ := DataW.trod_int u1 h4
    injection e1 with e1
    injection e2 with e2
    rw [h1, h2, e1, e2]
    exact ⟨rfl, rfl, g1, g2⟩
  refine ⟨a, len, m, (List.range len).map fun i => (numV (V0 i), numV (V1 i)), _, _, rfl, hl, hm, by simp, rfl, by simp, by simp, ?_, ?_⟩
  · intro j u hj
    have hjl : j < len * 2 := by
      have := (List.getElem?_eq_some_iff.1 hj).1
      rw [flat_len] at this
      simpa using this
    obtain ⟨b, off, spot⟩ := a
    have hspot : spot = none := by simpa [Addr.add] using World.cell?_spot (each 0 (by omega)).1
    subst hspot
    have hd : ∀ i, i < len → ((List.range len).map fun i => (numV (V0 i), numV (V1 i))).getD i (0, 0) = (numV (V0 i), numV (V1 i)) := fun i hi => by simp [List.getD, hi]
    rcases Nat.mod_two_eq_zero_or_one j with hp | hp
    · obtain ⟨i, rfl⟩ : ∃ i, j = i * 2 := ⟨j / 2, by omega⟩
      have hi : i < len := by omega
      have e := (each i (by omega)).1
      rw [add_plain] at e
      rw [flat_lo (by simpa using hi), hd i hi] at hj
      injection hj with hj
      subst hj
      exact ⟨b, off, rfl, World.block_lt_of_cell? w _ e, e⟩
    · obtain ⟨i, rfl⟩ : ∃ i, j = i * 2 + 1 := ⟨j / 2, by omega⟩
      have hi : i < len := by omega
      have e := (each i (by omega)).2.1
      rw [add_plain] at e
      rw [flat_hi (by simpa using hi), hd i hi] at hj
      injection hj with hj
      subst hj
      exact ⟨b, off, rfl, World.block_lt_of_cell? w _ e, e⟩
  · intro s hs
    obtain ⟨i, hi, rfl⟩ := List.mem_map.1 hs
    exact (each i (by have := List.mem_range.1 hi; omega)).2.2
/-- A span that came in by value. -/
theorem open_span {r : Reach} {b0 : Nat} {t : TypeId} {f0 f1 : Field} {v : Value} {d : DataW H} {p : List MemPlace} (hs : P.underlying t = some (.struct #[f0, f1])) (hone : Go.Deep.oneCellFields P #[f0, f1] = true) (hC : P.cellsOf t = 2)
    (u0 : P.underlying f0.type = some (.int .u64)) (u1 : P.underlying f1.type = some (.int .u64))
    (hv : Value.okWide P w r b0 t v) (h : DataW.Trod enc P w base (fun _ => true) held t v d p) : ∃ s : Sp, v = .agg #[.int .u64 s.1, .int .u64 s.2] ∧ (Lit.int .u64 s.1).wf = true ∧ (Lit.int .u64 s.2).wf = true := by
  obtain ⟨v0, v1, y0, y1, n, rfl, _, _, h0, h1⟩ := Go.Joins.open_agg2 hs hone hC hv h
  obtain ⟨x, e1, _, g1⟩ := DataW.trod_int u0 h0
  obtain ⟨y, e2, _, g2⟩ := DataW.trod_int u1 h1
  injection e1 with e1
  injection e2 with e2
  subst e1
  subst e2
  exact ⟨(x, y), rfl, g1, g2⟩
end
end Go.Proofs.YtkiloaebokkjbaaGreat.Base

/-
  Acknowledgments by value that came in: what a walk knows of them. Nothing here names a program.
-/
set_option linter.unusedSimpArgs false
set_option linter.unusedVariables false
namespace Go.Proofs.YtkiloaebokkjbaaGreat.Base
set_option linter.unusedVariables false
open Go.ChangeShapes Go.WideShapes Go.RowKit Go.Deep
open Go.Proofs.YtkiloaebokkjbaaGreat.SpanPlain
open Go.Proofs.YtkiloaebokkjbaaGreat.AckPlain (K)

/-- The numbers of an acknowledgment lie in their words. -/
def Words9 (x : K) : Prop := Fits x.spans ∧ Fits x.marked ∧ (0 ≤ x.trigger ∧ x.trigger ≤ 18446744073709551615) ∧ (0 ≤ x.xor ∧ x.xor ≤ 18446744073709551615)
theorem list5 {α : Type} {l : List α} (h : l.length = 5) : ∃ a b c d e, l = [a, b, c, d, e] := by
  match l, h with
  | [a, b, c, d, e], _ => exact ⟨a, b, c, d, e, rfl⟩
section
variable {H : Type} {enc : TypeId × Value → H} {P : Program} {w : World} {base : Nat} {held : Bool}
/-- One field that is a slice of spans. -/
theorem open_row {n : Nat} {t e : TypeId} {g0 g1 : Field} {u : Value} {y : DataW H × List MemPlace} (ut : P.underlying t = some (.slice e)) (ue : P.underlying e = some (.struct #[g0, g1])) (ce : P.cellsOf e = 2)
    (o0 : g0.offset = 0) (o1 : g1.offset = 1) (c0 : P.cellsOf g0.type = 1) (c1 : P.cellsOf g1.type = 1)
    (v0 : P.underlying g0.type = some (.int .u64)) (v1 : P.underlying g1.type = some (.int .u64)) (h : DataW.trod enc P w base (fun _ => true) held n t [u] = some y) :
    ∃ (z : List Sp) (a : Option Addr) (len cap : Nat), u = .slice a len cap ∧ z.length = len ∧ len ≤ cap ∧ cap ≤ maxLen ∧ (a = none → len = 0 ∧ cap = 0) ∧ Spans w a z ∧ Fits z := by
  rcases open_spans ut ue ce o0 o1 c0 c1 v0 v1 h with ⟨hcs, _⟩ | ⟨a, len, cap, zs, E, S, hcs, hl, hm, hz, _, _, _, hr, hw⟩
  · injection hcs with hcs
    exact ⟨[], none, 0, 0, hcs, rfl, Nat.le_refl _, Nat.zero_le _, (fun _ => ⟨rfl, rfl⟩), Spans.nil _ _, Fits.nil⟩
  · injection hcs with hcs
    exact ⟨zs, some a, len, cap, hcs, hz, hl, hm, (fun e => by cases e), hr, fun s hs => ⟨u64_of (hw s hs).1, u64_of (hw s hs).2⟩⟩
theorem open_ack {r : Reach} {b0 : Nat} {t e : TypeId} {f0 f1 f2 f3 f4 g0 g1 : Field} {v : Value} {d : DataW H} {p : List MemPlace} (hs : P.underlying t = some (.struct #[f0, f1, f2, f3, f4])) (hone : oneCellFields P #[f0, f1, f2, f3, f4] = true) (hC : P.cellsOf t = 5)
    (u0 : P.underlying f0.type = some (.slice e)) (u1 : P.underlying f1.type = some (.slice e)) (u2 : P.underlying f2.type = some (.int .u64)) (u3 : P.underlying f3.type = some (.int .u64)) (u4 : P.underlying f4.type = some .bool)
    (ue : P.underlying e = some (.struct #[g0, g1])) (ce : P.cellsOf e = 2) (o0 : g0.offset = 0) (o1 : g1.offset = 1) (c0 : P.cellsOf g0.type = 1) (c1 : P.cellsOf g1.type = 1) (v0 : P.underlying g0.type = some (.int .u64)) (v1 : P.underlying g1.type = some (.int .u64))
    (hv : Value.okWide P w r b0 t v) (h : DataW.Trod enc P w base (fun _ => true) held t v d p) :
    ∃ (x : K) (a : Option Addr) (len cap : Nat) (b : Option Addr) (lem cam : Nat), v = .agg #[.slice a len cap, .slice b lem cam, .int .u64 x.trigger, .int .u64 x.xor, .bool x.parity] ∧
      (x.spans.length = len ∧ len ≤ cap ∧ cap ≤ maxLen ∧ (a = none → len = 0 ∧ cap = 0) ∧ Spans w a x.spans) ∧ (x.marked.length = lem ∧ lem ≤ cam ∧ cam ≤ maxLen ∧ (b = none → lem = 0 ∧ cam = 0) ∧ Spans w b x.marked) ∧ Words9 x := by
  obtain ⟨cs, ys, n, rfl, hl, _, _, hf⟩ := open_struct hs hone hC hv h
  obtain ⟨w0, w1, w2, w3, w4, rfl⟩ := list5 hl
  obtain ⟨s0, y0, q0, _, t0⟩ := hf 0 f0 rfl
  obtain ⟨s1, y1, q1, _, t1⟩ := hf 1 f1 rfl
  obtain ⟨s2, y2, q2, _, t2⟩ := hf 2 f2 rfl
  obtain ⟨s3, y3, q3, _, t3⟩ := hf 3 f3 rfl
  obtain ⟨s4, y4, q4, _, t4⟩ := hf 4 f4 rfl
  simp at q0 q1 q2 q3 q4
  subst q0 q1 q2 q3 q4
  obtain ⟨z0, a, len, cap, rfl, n0, m0, x0, e0, r0, k0⟩ := open_row u0 ue ce o0 o1 c0 c1 v0 v1 t0
  obtain ⟨z1, b, lem, cam, rfl, n1, m1, x1, e1, r1, k1⟩ := open_row u1 ue ce o0 o1 c0 c1 v0 v1 t1
  obtain ⟨n2, g2, _, p2⟩ := DataW.trod_int u2 t2
  obtain ⟨n3, g3, _, p3⟩ := DataW.trod_int u3 t3
  obtain ⟨n4, g4, _⟩ := DataW.trod_bool u4 t4
  injection g2 with g2
  injection g3 with g3
  injection g4 with g4
  subst g2 g3 g4
  exact ⟨⟨z0, z1, n2, n3, n4⟩, a, len, cap, b, lem, cam, rfl, ⟨n0, m0, x0, e0, r0⟩, ⟨n1, m1, x1, e1, r1⟩, k0, k1, u64_of p2, u64_of p3⟩
end
end Go.Proofs.YtkiloaebokkjbaaGreat.Base
