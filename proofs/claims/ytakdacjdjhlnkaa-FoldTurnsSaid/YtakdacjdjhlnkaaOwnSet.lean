/-
  A store into a row of the call's own, cells of one value each. Nothing here names a program.
-/
import Derived.Test.YtakdacjdjhlnkaaFr
namespace Go.Proofs.Ytakdacjdjhlnkaa.Base
set_option linter.unusedVariables false
open Go.ChangeShapes Go.WideShapes Go.RowKit

theorem own_set1 {base n : Nat} {e : TypeId} {w : World} {v : Value} {xs : List Value} (h : w.ownsRow base e 1 v n xs) (hn : xs.length = n) {t : Nat} (ht : t < n) : ∃ (g cap : Nat) (u : Value), v = .slice (some ⟨g, 0, none⟩) n cap ∧ base ≤ g ∧ g < w.heap.size ∧ n ≤ cap ∧ cap ≤ maxLen ∧ xs[t]? = some u ∧
    w.cell? ⟨g, t, none⟩ = some u ∧ w.frozen? ⟨g, t, none⟩ = false ∧ ∀ y, Row (w.setCell ⟨g, t, none⟩ y) (some ⟨g, 0, none⟩) (xs.set t y) := by
  subst hn
  rcases h.2 with ⟨_, h0⟩ | ⟨g, cap, cur, rfl, hg, hh, h1, h2, h3, h4⟩
  · omega
  · have hB : Blk w g cur e := hh
    have hx : xs[t]? = some xs[t] := List.getElem?_eq_getElem ht
    have hc : ∀ (j : Nat) (u : Value), xs[j]? = some u → cur[j]? = some u := fun j u hj => by
      rw [← h4, List.getElem?_take] at hj
      split at hj
      · simpa using hj
      · cases hj
    refine ⟨g, cap, xs[t], rfl, hg, hB.lt, h1, h2, hx, ?_, hB.free t, fun y j u hj => ⟨g, 0, rfl, ?_, ?_⟩⟩
    · rw [hB.cell]
      exact hc t _ hx
    · have := hB.lt
      simpa [World.setCell] using this
    · rw [Nat.zero_add, (hB.set t y).cell, Array.getElem?_setIfInBounds]
      rw [List.getElem?_set] at hj
      split
      · rename_i e
        subst e
        rw [if_pos rfl, if_pos ht] at hj
        have : t < cur.size := (Array.getElem?_eq_some_iff.1 (hc t _ hx)).1
        rw [if_pos this]
        exact hj
      · rename_i e
        rw [if_neg e] at hj
        exact hc j u hj
end Go.Proofs.Ytakdacjdjhlnkaa.Base
