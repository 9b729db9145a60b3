/-
  Which packets are lost, and when the next one is, as the document defines it. Plain.
-/
import Derived.Test.YtoncominjgkjoaaLedPlain
import Derived.Test.YtoncominjgkjoaaSatPlain
set_option linter.unusedSimpArgs false
set_option linter.unusedVariables false
namespace Go.Proofs.Ytoncominjgkjoaa.LossPlain
set_option linter.unusedVariables false
open Go.Proofs.Ytoncominjgkjoaa.LedPlain

/-- A number that is looked at. -/
def seenB (n : Int) (s : Sn) : Bool := decide (s.state = 1) && decide (s.pn < n)
/-- It is lost. -/
def goneB (n now win : Int) (s : Sn) : Bool := decide (3 ≤ n - s.pn) || decide (win ≤ Sat.sub now s.time)
def lostB (n now win : Int) (s : Sn) : Bool := seenB n s && goneB n now win s
def lostL (n now win : Int) (l : List Sn) : List Int := (l.filter (lostB n now win)).map (·.pn)
def nextT (n now win : Int) : List Sn → Int
  | [] => 18446744073709551615
  | s :: t => if seenB n s = true ∧ goneB n now win s = false then min (Sat.add s.time win) (nextT n now win t) else nextT n now win t
theorem lost_step {n now win : Int} {l : List Sn} {k : Nat} (h : k < l.length) : lostL n now win (l.drop k) = if lostB n now win (l.getD k Z8) = true then (l.getD k Z8).pn :: lostL n now win (l.drop (k + 1)) else lostL n now win (l.drop (k + 1)) := by
  rw [List.drop_eq_getElem_cons h, lostL, List.filter_cons, show l.getD k Z8 = l[k] by simp [List.getD, h]]
  split <;> rfl
theorem next_step {n now win : Int} {l : List Sn} {k : Nat} (h : k < l.length) : nextT n now win (l.drop k) = if seenB n (l.getD k Z8) = true ∧ goneB n now win (l.getD k Z8) = false then min (Sat.add (l.getD k Z8).time win) (nextT n now win (l.drop (k + 1))) else nextT n now win (l.drop (k + 1)) := by
  rw [List.drop_eq_getElem_cons h, nextT, show l.getD k Z8 = l[k] by simp [List.getD, h]]
theorem lost_le (n now win : Int) (l : List Sn) : (lostL n now win l).length ≤ l.length := by
  unfold lostL
  rw [List.length_map]
  exact List.length_filter_le _ _
theorem next_bd (n now win : Int) (w0 : 0 ≤ win) : ∀ l : List Sn, (∀ s ∈ l, 0 ≤ s.time) → 0 ≤ nextT n now win l ∧ nextT n now win l ≤ 18446744073709551615
  | [], _ => by unfold nextT; omega
  | s :: t, h => by
    have ih := next_bd n now win w0 t fun x hx => h x (by simp [hx])
    have := Sat.add_bd (h s (by simp)) w0
    unfold nextT
    split <;> omega
end Go.Proofs.Ytoncominjgkjoaa.LossPlain
