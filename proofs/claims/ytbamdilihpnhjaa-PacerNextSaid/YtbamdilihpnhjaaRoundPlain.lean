/-
  Rounds as the document defines them. Plain.
-/
import Derived.Test.YtbamdilihpnhjaaSatPlain
set_option linter.unusedSimpArgs false
set_option linter.unusedVariables false
namespace Go.Proofs.Ytbamdilihpnhjaa.RoundPlain
set_option linter.unusedVariables false

structure Rd where
  end_ : Int
  cuts : Int
  deriving DecidableEq
structure DFit (r : Rd) : Prop where
  e0 : 0 ≤ r.end_
  e1 : r.end_ ≤ 18446744073709551615
  c0 : 0 ≤ r.cuts
  c1 : r.cuts ≤ 18446744073709551615
def freshP (r : Rd) (pn : Int) : Bool := decide (r.end_ ≤ pn)
def endP (pn next : Int) : Int := if next ≤ pn then Sat.add pn 1 else next
def beginP (r : Rd) (pn next : Int) : Rd := if r.end_ ≤ pn then ⟨endP pn next, Sat.add r.cuts 1⟩ else r
theorem end_bd {pn next : Int} (p0 : 0 ≤ pn) (n0 : 0 ≤ next) (n1 : next ≤ 18446744073709551615) : 0 ≤ endP pn next ∧ endP pn next ≤ 18446744073709551615 := by
  have h := Sat.add_bd p0 (show (0 : Int) ≤ 1 by decide)
  unfold endP
  split <;> omega
theorem fit_begin {r : Rd} (h : DFit r) {pn next : Int} (p0 : 0 ≤ pn) (n0 : 0 ≤ next) (n1 : next ≤ 18446744073709551615) : DFit (beginP r pn next) := by
  obtain ⟨a, b, c, d⟩ := h
  have h1 := end_bd p0 n0 n1
  have h2 := Sat.add_bd c (show (0 : Int) ≤ 1 by decide)
  unfold beginP
  split
  · exact ⟨h1.1, h1.2, h2.1, h2.2⟩
  · exact ⟨a, b, c, d⟩
theorem begin_yes {r : Rd} {pn next : Int} (h : r.end_ ≤ pn) : beginP r pn next = ⟨endP pn next, Sat.add r.cuts 1⟩ := by
  unfold beginP
  rw [if_pos h]
theorem begin_no {r : Rd} {pn next : Int} (h : ¬ r.end_ ≤ pn) : beginP r pn next = r := by
  unfold beginP
  rw [if_neg h]
end Go.Proofs.Ytbamdilihpnhjaa.RoundPlain
