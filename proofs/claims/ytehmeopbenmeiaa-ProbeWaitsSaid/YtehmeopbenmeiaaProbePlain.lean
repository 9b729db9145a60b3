/-
  A probe's timer as the document defines it. Plain.
-/
import Derived.Test.YtehmeopbenmeiaaSatPlain
set_option linter.unusedSimpArgs false
set_option linter.unusedVariables false
namespace Go.Proofs.Ytehmeopbenmeiaa.ProbePlain
set_option linter.unusedVariables false

structure Pb where
  count : Int
  from_ : Int
structure PFit (p : Pb) : Prop where
  c0 : -9223372036854775808 ≤ p.count
  c1 : p.count ≤ 9223372036854775807
  f0 : 0 ≤ p.from_
  f1 : p.from_ ≤ 18446744073709551615
def backoff (a n m : Int) : Int := min (Sat.shl a n) m
def deadlineP (p : Pb) (flying : Bool) (t m : Int) : Int := if flying = true then Sat.add p.from_ (backoff t p.count m) else 18446744073709551615
def firedP (p : Pb) (now : Int) : Pb := ⟨min (max p.count 0) 59 + 1, now⟩
def calmP (now : Int) : Pb := ⟨0, now⟩
def sentP (p : Pb) (now : Int) : Pb := ⟨p.count, now⟩
theorem shl_ge {a n : Int} (a0 : 0 ≤ a) (a1 : a ≤ 18446744073709551615) : a ≤ Sat.shl a n ∧ Sat.shl a n ≤ 18446744073709551615 := by
  have h := Sat.pw_le a0 0 n.toNat
  rw [Sat.pw_zero, Nat.zero_add] at h
  unfold Sat.shl
  split <;> omega
theorem backoff_bd {a n m : Int} (a0 : 0 ≤ a) (a1 : a ≤ 18446744073709551615) (m0 : 0 ≤ m) : min a m ≤ backoff a n m ∧ backoff a n m ≤ m ∧ 0 ≤ backoff a n m := by
  obtain ⟨h1, h2⟩ := shl_ge (n := n) a0 a1
  unfold backoff
  omega
theorem fit_fired {p : Pb} (h : PFit p) {now : Int} (n0 : 0 ≤ now) (n1 : now ≤ 18446744073709551615) : PFit (firedP p now) := by
  obtain ⟨a, b, c, d⟩ := h
  unfold firedP
  constructor <;> simp only <;> omega
/-- A probe is due no later than the most behind what it runs from, and no earlier than that. -/
theorem waits {p : Pb} (h : PFit p) {t m : Int} (t0 : 0 ≤ t) (t1 : t ≤ 18446744073709551615) (m0 : 0 ≤ m) (m1 : m ≤ 18446744073709551615) :
    p.from_ ≤ deadlineP p true t m ∧ deadlineP p true t m ≤ Sat.add p.from_ m ∧ Sat.add p.from_ (min t m) ≤ deadlineP p true t m := by
  obtain ⟨a, b, c, d⟩ := h
  obtain ⟨h1, h2, h3⟩ := backoff_bd (n := p.count) t0 t1 m0
  unfold deadlineP Sat.add
  rw [if_pos rfl]
  (repeat' split) <;> omega
end Go.Proofs.Ytehmeopbenmeiaa.ProbePlain
