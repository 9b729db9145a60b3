/-
  Token buckets, as the document defines them. Plain.
-/
import Derived.Test.YtbamdilihpnhjaaRenoPlain
set_option linter.unusedSimpArgs false
set_option linter.unusedVariables false
namespace Go.Proofs.Ytbamdilihpnhjaa.PacerPlain
set_option linter.unusedVariables false
open Go.Proofs.Ytbamdilihpnhjaa.RenoPlain

/-- A bucket: tokens, when that was reckoned, the rate. -/
structure Pc where
  tok : Int
  at_ : Int
  rate : Int
  deriving DecidableEq
structure PFit (p : Pc) : Prop where
  tok : U p.tok
  at_ : U p.at_
  rate : U p.rate
def full (burst : Int) : Int := Sat.mul burst 1000000
def startP (burst now rate : Int) : Pc := ⟨full burst, now, min rate 4294967296⟩
def rateP (cwnd smooth slowest : Int) : Int := min 4294967296 (max slowest (Wide.down cwnd 1250000 (max smooth 1)))
def fillP (p : Pc) (burst now : Int) : Pc := ⟨min (full burst) (Sat.add p.tok (Sat.mul p.rate (Sat.sub now p.at_))), max p.at_ now, p.rate⟩
def setP (p : Pc) (burst now rate : Int) : Pc := { fillP p burst now with rate := min rate 4294967296 }
def takeB (p : Pc) (burst now size : Int) : Bool := decide (Sat.mul size 1000000 ≤ (fillP p burst now).tok)
def takeP (p : Pc) (burst now size : Int) : Pc := if takeB p burst now size = true then { fillP p burst now with tok := (fillP p burst now).tok - Sat.mul size 1000000 } else fillP p burst now
def nextP (p : Pc) (burst now size : Int) : Int :=
  if takeB p burst now size = true then (fillP p burst now).at_
  else if full burst < Sat.mul size 1000000 ∨ p.rate = 0 then 18446744073709551615
  else Sat.add (fillP p burst now).at_ (Wide.up (Sat.mul size 1000000 - (fillP p burst now).tok) 1 p.rate)
theorem full_bd {b : Int} (h : 0 ≤ b) : U (full b) := mul_bd h (by decide)
theorem fit_fill {p : Pc} (h : PFit p) {b n : Int} (hb : U b) (hn : U n) : PFit (fillP p b n) := by
  have h1 := full_bd hb.1
  have h2 := Sat.sub_bd (a := n) (b := p.at_) h.at_.1 hn.2
  have h3 := mul_bd h.rate.1 h2.1
  have h4 := Sat.add_bd h.tok.1 h3.1
  have h5 := h.at_
  refine ⟨?_, ?_, h.rate⟩
  · show U (min (full b) (Sat.add p.tok (Sat.mul p.rate (Sat.sub n p.at_))))
    unfold U at *
    omega
  · show U (max p.at_ n)
    unfold U at *
    omega
theorem fit_start {b n r : Int} (hb : U b) (hn : U n) (hr : U r) : PFit (startP b n r) := by
  refine ⟨full_bd hb.1, hn, ?_⟩
  show U (min r 4294967296)
  unfold U at *
  omega
theorem fit_set {p : Pc} (h : PFit p) {b n r : Int} (hb : U b) (hn : U n) (hr : U r) : PFit (setP p b n r) := by
  have h1 := fit_fill h hb hn
  exact { h1 with rate := (show U (min r 4294967296) by unfold U at *; omega) }
theorem fit_take {p : Pc} (h : PFit p) {b n s : Int} (hb : U b) (hn : U n) (hs : U s) : PFit (takeP p b n s) := by
  have h1 := fit_fill h hb hn
  have h2 := mul_bd hs.1 (show (0 : Int) ≤ 1000000 by decide)
  unfold takeP takeB
  split
  · rename_i ht
    have ht' := of_decide_eq_true ht
    have h3 := h1.tok
    exact { h1 with tok := (show U ((fillP p b n).tok - Sat.mul s 1000000) by unfold U at *; omega) }
  · exact h1
/-- Saturating sums and products of amounts that are not negative. -/
theorem mul_add {r x y : Int} (r0 : 0 ≤ r) (x0 : 0 ≤ x) (y0 : 0 ≤ y) (t f : Int) (t0 : 0 ≤ t) (f1 : f ≤ 18446744073709551615) :
    min f (Sat.add (min f (Sat.add t (Sat.mul r x))) (Sat.mul r y)) = min f (Sat.add t (Sat.mul r (x + y))) := by
  have e : r * (x + y) = r * x + r * y := Int.mul_add ..
  have a0 := Int.mul_nonneg r0 x0
  have b0 := Int.mul_nonneg r0 y0
  unfold Sat.add Sat.mul
  rw [e]
  generalize r * x = a at *
  generalize r * y = b at *
  split <;> split <;> split <;> (try split) <;> (try split) <;> (try split) <;> omega
theorem fill_twice {p : Pc} (h : PFit p) {b n m : Int} (hb : U b) (hn : U n) (hm : U m) (hnm : n ≤ m) : fillP (fillP p b n) b m = fillP p b m := by
  have hf := full_bd hb.1
  have hat := h.at_
  unfold U at *
  unfold fillP
  simp only [Pc.mk.injEq, and_true]
  refine ⟨?_, by omega⟩
  by_cases h1 : p.at_ ≤ n
  · have e1 : max p.at_ n = n := by omega
    have e2 : Sat.sub n p.at_ = n - p.at_ := by unfold Sat.sub; rw [if_neg (by omega)]
    have e3 : Sat.sub m n = m - n := by unfold Sat.sub; rw [if_neg (by omega)]
    have e4 : Sat.sub m p.at_ = (n - p.at_) + (m - n) := by unfold Sat.sub; rw [if_neg (by omega)]; omega
    rw [e1, e2, e3, e4]
    exact mul_add h.rate.1 (by omega) (by omega) _ _ h.tok.1 hf.2
  · have e1 : max p.at_ n = p.at_ := by omega
    have e2 : Sat.sub n p.at_ = 0 := by unfold Sat.sub; split <;> omega
    rw [e1, e2]
    have hy := Sat.sub_bd (a := m) (b := p.at_) hat.1 hm.2
    have := mul_add h.rate.1 (Int.le_refl 0) hy.1 p.tok (full b) h.tok.1 hf.2
    rw [Int.zero_add] at this
    exact this
end Go.Proofs.Ytbamdilihpnhjaa.PacerPlain
