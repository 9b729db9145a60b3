/-
  Several texts in one: SpanRow, AckRow.
-/
import Derived.Test.YtkiloaebokkjbaaGreatM2
import Derived.Test.YtkiloaebokkjbaaGreatSpanPlain
import Derived.Test.YtkiloaebokkjbaaGreatIn
import Derived.Deep.SlicePairs
import Derived.Lib.SmallJoins
import Derived.Test.YtkiloaebokkjbaaGreatM1
import Derived.Test.YtkiloaebokkjbaaGreatM3
/-
  Slices of spans, and spans by value: what a walk knows of them. Nothing here names a program.
-/
set_option linter.unusedSimpArgs false
set_option linter.unusedVariables false
namespace Go.Proofs.YtkiloaebokkjbaaGreat.Base
set_option linter.unusedVariables false
open Go.ChangeShapes Go.WideShapes Go.RowKit
open Go.Proofs.YtkiloaebokkjbaaGreat.SpanPlain

def cells (s : Sp) : List Value := [.int .u64 s.1, .int .u64 s.2]
def flat (l : List Sp) : List Value := l.flatMap cells
theorem flat_nil : flat [] = [] := rfl
theorem flat_cons (s : Sp) (l : List Sp) : flat (s :: l) = .int .u64 s.1 :: .int .u64 s.2 :: flat l := rfl
theorem flat_append (l m : List Sp) : flat (l ++ m) = flat l ++ flat m := List.flatMap_append
theorem flat_len : ∀ l : List Sp, (flat l).length = l.length * 2
  | [] => rfl
  | s :: l => by rw [flat_cons, List.length_cons, List.length_cons, flat_len l, List.length_cons]; omega
theorem flat_one (l : List Sp) : ∀ u ∈ flat l, u.oneCell' = true := fun u hu => by
  obtain ⟨s, _, hs⟩ := List.mem_flatMap.1 hu
  rcases List.mem_cons.1 hs with rfl | hs
  · rfl
  · rcases List.mem_cons.1 hs with rfl | hs
    · rfl
    · cases hs
theorem flat_lo : ∀ {l : List Sp} {i : Nat}, i < l.length → (flat l)[i * 2]? = some (.int .u64 (l.getD i (0, 0)).1)
  | s :: l, 0, _ => rfl
  | s :: l, i + 1, h => by
    rw [flat_cons, show (i + 1) * 2 = i * 2 + 1 + 1 by omega, List.getElem?_cons_succ, List.getElem?_cons_succ, flat_lo (by simpa using h)]
    rfl
theorem flat_hi : ∀ {l : List Sp} {i : Nat}, i < l.length → (flat l)[i * 2 + 1]? = some (.int .u64 (l.getD i (0, 0)).2)
  | s :: l, 0, _ => rfl
  | s :: l, i + 1, h => by
    rw [flat_cons, show (i + 1) * 2 + 1 = i * 2 + 1 + 1 + 1 by omega, List.getElem?_cons_succ, List.getElem?_cons_succ, flat_hi (by simpa using h)]
    rfl
theorem flat_take (l : List Sp) (n : Nat) : flat (l.take n) = (flat l).take (n * 2) := by
  induction l generalizing n with
  | nil => simp [flat_nil]
  | cons s l ih =>
    cases n with
    | zero => simp [flat_nil]
    | succ n => rw [List.take_succ_cons, flat_cons, flat_cons, ih, show (n + 1) * 2 = n * 2 + 1 + 1 by omega, List.take_succ_cons, List.take_succ_cons]
theorem flat_drop (l : List Sp) (n : Nat) : flat (l.drop n) = (flat l).drop (n * 2) := by
  induction l generalizing n with
  | nil => simp [flat_nil]
  | cons s l ih =>
    cases n with
    | zero => simp
    | succ n => rw [List.drop_succ_cons, flat_cons, ih, show (n + 1) * 2 = n * 2 + 1 + 1 by omega, List.drop_succ_cons, List.drop_succ_cons]
/-- Spans from the pointer a on. -/
def Spans (w : World) (a : Option Addr) (l : List Sp) : Prop := Row w a (flat l)
theorem Spans.nil (w : World) (a : Option Addr) : Spans w a [] := Row.nil _ _
theorem Spans.below {w w' : World} {a : Option Addr} {l : List Sp} (h : Spans w a l) (hb : Below w.heap.size w w') : Spans w' a l := Row.below h hb
theorem Spans.drew {w : World} {a : Option Addr} {l : List Sp} (h : Spans w a l) : Spans w.drew a l := h
theorem Spans.drewN {w : World} {a : Option Addr} {l : List Sp} (h : Spans w a l) (n : Nat) : Spans (w.drewN n) a l := h
theorem Spans.of {w : World} {a : Option Addr} {l : List Sp} {xs : List Value} (h : Row w a xs) (e : xs = flat l) : Spans w a l := by subst e; exact h
theorem Spans.take {w : World} {a : Option Addr} {l : List Sp} (h : Spans w a l) (n : Nat) : Spans w a (l.take n) := by
  unfold Spans
  rw [flat_take]
  exact Row.take h _
theorem Spans.at_ {w : World} {a : Option Addr} {l : List Sp} (h : Spans w a l) {i : Nat} (hi : i < l.length) :
    ∃ b off, a = some ⟨b, off, none⟩ ∧ b < w.heap.size ∧ w.cell? ⟨b, off + i * 2, none⟩ = some (.int .u64 (l.getD i (0, 0)).1) ∧ w.cell? ⟨b, off + i * 2 + 1, none⟩ = some (.int .u64 (l.getD i (0, 0)).2) := by
  obtain ⟨b, off, rfl, hb, hc⟩ := h _ _ (flat_lo hi)
  obtain ⟨b', off', e, _, hc'⟩ := h _ _ (flat_hi hi)
  cases e
  exact ⟨b, off, rfl, hb, hc, by rw [Nat.add_assoc]; exact hc'⟩
theorem Spans.drop {w : World} {b off : Nat} {l : List Sp} (h : Spans w (some ⟨b, off, none⟩) l) (n : Nat) : Spans w (some ⟨b, off + n * 2, none⟩) (l.drop n) := by
  unfold Spans
  rw [flat_drop]
  exact ((RowIn.drop (Row.in_ h) (n * 2))).row

/-- A world behind a box that holds a span: what its walk reads. -/
theorem boxed {a w : World} {B : Nat} (h : Below B a w) (hB : B ≤ w.heap.size) (x y : Value) (T : TypeId) :
    (w.alloc (.cells #[x, y] T)).cell? ⟨w.heap.size, 0, none⟩ = some x ∧ (w.alloc (.cells #[x, y] T)).cell? ⟨w.heap.size, 1, none⟩ = some y ∧ (w.alloc (.cells #[x, y] T)).heap.size = w.heap.size + 1 ∧ Below B a (w.alloc (.cells #[x, y] T)) ∧
      (∀ b o v, w.cell? ⟨b, o, none⟩ = some v → (w.alloc (.cells #[x, y] T)).cell? ⟨b, o, none⟩ = some v ∧ b < w.heap.size + 1) :=
  ⟨by simp [World.cell?_alloc_new], by simp [World.cell?_alloc_new], by simp, h.alloc hB _, fun b o v hv => by
    have hlt := World.block_lt_of_cell? w _ hv
    exact ⟨by rw [World.cell?_alloc_lt w _ ⟨b, o, none⟩ hlt]; exact hv, by simp only at hlt; omega⟩⟩
theorem keep_cell {W w : World} (h : Below W.heap.size W w) {b o : Nat} {v : Value} (hv : W.cell? ⟨b, o, none⟩ = some v) : w.cell? ⟨b, o, none⟩ = some v := by
  rw [h.cell (World.block_lt_of_cell? W _ hv)]
  exact hv
theorem In.cell {W : World} (p : In (Lt W)) {b o : Nat} {v : Value} (hv : W.cell? ⟨b, o, none⟩ = some v) : p.w.cell? ⟨b, o, none⟩ = some v := keep_cell p.h hv
def numV : Value → Int
  | .int _ n => n
  | _ => 0
section
variable {H : Type} {enc : TypeId × Value → H} {P : Program} {w : World} {base : Nat} {held : Bool}
end
end Go.Proofs.YtkiloaebokkjbaaGreat.Base

/-
  Acknowledgments by value that came in: what a walk knows of them. Nothing here names a program.
-/
set_option linter.unusedSimpArgs false
set_option linter.unusedVariables false
namespace Go.Proofs.YtkiloaebokkjbaaGreat.Base
set_option linter.unusedVariables false
open Go.ChangeShapes Go.WideShapes Go.RowKit Go.Deep
open Go.Proofs.YtkiloaebokkjbaaGreat.SpanPlain
open Go.Proofs.YtkiloaebokkjbaaGreat.AckPlain (K)

section
variable {H : Type} {enc : TypeId × Value → H} {P : Program} {w : World} {base : Nat} {held : Bool}
end
end Go.Proofs.YtkiloaebokkjbaaGreat.Base
