/-
  Which number an acknowledgment names, as the document defines it. Plain.
-/
import Derived.Test.YtlnncfjfphkkdaaM4
import Derived.Test.YtlnncfjfphkkdaaAckPlain
set_option linter.unusedSimpArgs false
set_option linter.unusedVariables false
namespace Go.Proofs.Ytlnncfjfphkkdaa.LedPlain
set_option linter.unusedVariables false
open Go.Proofs.Ytlnncfjfphkkdaa.SpanPlain
open Go.Proofs.Ytlnncfjfphkkdaa.AckPlain (K)

/-- Does a row claim a number below low? -/
def belowB (l : List Sp) (low : Int) : Bool := decide (0 < l.length) && decide ((l.getD 0 (0, 0)).1 < low)
/-- Is it the one that is named? -/
def namesB (x : K) (s : Sn) : Bool := decide (s.state ≠ 4) && !s.used && (s.nonce == x.trigger) && has x.spans s.pn
def firstT (x : K) : List Sn → Int × Int
  | [] => (0, 3)
  | s :: t => if namesB x s = true then (s.pn, 0) else firstT x t
def lookG (g : Lg) (x : K) : Int × Int := if AckPlain.may x = false then (0, 1) else if belowB x.spans (lowN g) = true then (0, 2) else firstT x (allS g)
theorem may_le {x : K} (h : AckPlain.may x = true) : x.spans.length ≤ 32 ∧ x.marked.length ≤ 32 := by
  unfold AckPlain.may at h
  simp only [Bool.and_eq_true, decide_eq_true_eq] at h
  omega
theorem firstT_step {x : K} {l : List Sn} {k : Nat} (h : k < l.length) : firstT x (l.drop k) = if namesB x (l.getD k Z8) = true then ((l.getD k Z8).pn, 0) else firstT x (l.drop (k + 1)) := by
  rw [List.drop_eq_getElem_cons h, firstT, show l.getD k Z8 = l[k] by simp [List.getD, h]]
end Go.Proofs.Ytlnncfjfphkkdaa.LedPlain
