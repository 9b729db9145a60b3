/-
  Slices of bools: rows in a world, one that came in. Nothing here names a program.
-/
import Derived.Test.YtnnpklnhdfpnjaaRow
import Derived.Deep.Slices
set_option linter.unusedSimpArgs false
set_option linter.unusedVariables false
namespace Go.Proofs.Ytnnpklnhdfpnjaa.Base
set_option linter.unusedVariables false
open Go.ChangeShapes Go.WideShapes Go.RowKit

/-- From pointer a on these bools lie side by side. -/
def Bools (w : World) (a : Option Addr) (bs : List Bool) : Prop := Row w a (bs.map .bool)
theorem Bools.below {w w' : World} {a : Option Addr} {bs : List Bool} (h : Bools w a bs) (hb : Below w.heap.size w w') : Bools w' a bs := Row.below h hb
theorem Bools.drew {w : World} {a : Option Addr} {bs : List Bool} (h : Bools w a bs) : Bools w.drew a bs := h
theorem Bools.nil (w : World) (a : Option Addr) : Bools w a [] := Row.nil _ _
theorem Bools.at_ {w : World} {a : Option Addr} {bs : List Bool} (h : Bools w a bs) {i : Nat} (hi : i < bs.length) :
    ∃ b off, a = some ⟨b, off, none⟩ ∧ b < w.heap.size ∧ w.cell? ⟨b, off + i, none⟩ = some (.bool (bs.getD i false)) :=
  h i _ (by simp [List.getD, hi])
theorem bools_one (bs : List Bool) : ∀ u ∈ bs.map Value.bool, u.oneCell' = true := fun u hu => by
  obtain ⟨b, _, rfl⟩ := List.mem_map.1 hu
  rfl
def boolV : Value → Bool
  | .bool b => b
  | _ => false
section
variable {H : Type} {enc : TypeId × Value → H} {P : Program} {w : World} {base : Nat} {held : Bool}
/-- A slice of bools that came in. -/
theorem open_bools {t e : TypeId} {fuel : Nat} {cs : List Value} {x : DataW H × List MemPlace} (ht : P.underlying t = some (.slice e)) (he : P.underlying e = some .bool) (ce : P.cellsOf e = 1)
    (h : DataW.trod enc P w base (fun _ => true) held fuel t cs = some x) :
    (cs = [.slice none 0 0] ∧ x = (.nil, [])) ∨
    ∃ (a : Addr) (len cap : Nat) (bs : List Bool) (E S : List (DataW H)), cs = [.slice (some a) len cap] ∧ len ≤ cap ∧ cap ≤ maxLen ∧ bs.length = len ∧ x.1 = .slice E S ∧ E.length = len ∧ S.length = cap - len ∧ Bools w (some a) bs := by
  rcases Go.Deep.open_slice1 ht ce h with h0 | ⟨a, len, cap, m, n, V, D, Pl, rfl, hb, hl, hm, hmm, rfl, hx⟩
  · exact Or.inl h0
  right
  simp only [if_true] at hmm
  subst hmm
  have each : ∀ i, i < m → w.cell? (a.add i) = some (.bool (boolV (V i))) := fun i hi => by
    obtain ⟨h1, h2⟩ := hx i hi
    obtain ⟨b, e1, _⟩ := DataW.trod_bool he h2
    injection e1 with e1
    rw [h1, e1]
    rfl
  refine ⟨a, len, m, (List.range len).map fun i => boolV (V i), _, _, rfl, hl, hm, by simp, rfl, by simp, by simp, ?_⟩
  intro j u hj
  have hjl : j < len := by
    have := (List.getElem?_eq_some_iff.1 hj).1
    simpa using this
  obtain ⟨b, off, spot⟩ := a
  have hspot : spot = none := by simpa [Addr.add] using World.cell?_spot (each 0 (by omega))
  subst hspot
  have e := each j (by omega)
  rw [add_plain] at e
  simp [hjl] at hj
  subst hj
  exact ⟨b, off, rfl, World.block_lt_of_cell? w _ e, e⟩
end
end Go.Proofs.Ytnnpklnhdfpnjaa.Base
