/-
  Windows as Reno grows and cuts them, as the document defines it. Plain.
-/
import Derived.Test.YtbamdilihpnhjaaSatPlain
import Derived.Test.YtbamdilihpnhjaaWideRnd
set_option linter.unusedSimpArgs false
set_option linter.unusedVariables false
namespace Go.Proofs.Ytbamdilihpnhjaa.RenoPlain
set_option linter.unusedVariables false

structure Wn where
  cw : Int
  th : Int
  ac : Int
  pk : Int
  ep : Int
  k : Int
  fr : Int
  deriving DecidableEq
def U (x : Int) : Prop := 0 ≤ x ∧ x ≤ 18446744073709551615
structure WFit (w : Wn) : Prop where
  cw : U w.cw
  th : U w.th
  ac : U w.ac
  pk : U w.pk
  ep : U w.ep
  k : U w.k
  fr : U w.fr
def slowW (w : Wn) (acked mss : Int) : Wn := { w with cw := Sat.add w.cw (min acked (Sat.mul 2 mss)) }
def growR (w : Wn) (acked mss : Int) : Wn :=
  if w.cw < w.th then slowW w acked mss
  else if w.cw ≤ Sat.add w.ac acked then { w with ac := Sat.add w.ac acked - w.cw, cw := Sat.add w.cw mss } else { w with ac := Sat.add w.ac acked }
def cutR (w : Wn) (num den : Int) : Wn := { w with th := Wide.down w.cw num den, cw := Wide.down w.cw num den, ac := 0 }
theorem mul_bd {a b : Int} (h0 : 0 ≤ a) (h1 : 0 ≤ b) : U (Sat.mul a b) := by
  have := Int.mul_nonneg h0 h1
  unfold Sat.mul U
  split <;> omega
theorem down_bd {a b d : Int} (a0 : 0 ≤ a) (b0 : 0 ≤ b) (d0 : 0 ≤ d) : U (Wide.down a b d) := by
  have m0 := Int.mul_nonneg a0 b0
  unfold Wide.down U
  split
  · omega
  · rename_i h
    generalize a * b = x at *
    have hd : 0 < d := by omega
    refine ⟨Int.ediv_nonneg m0 d0, ?_⟩
    have : x / d < 18446744073709551616 := Int.ediv_lt_of_lt_mul hd (by omega)
    omega
theorem fit_cut {w : Wn} (h : WFit w) {num den : Int} (a : U num) (m : U den) : WFit (cutR w num den) := by
  have h1 := down_bd h.cw.1 a.1 m.1
  exact { h with cw := h1, th := h1, ac := (show U 0 from ⟨by decide, by decide⟩) }
theorem fit_slow {w : Wn} (h : WFit w) {acked mss : Int} (a : U acked) (m : U mss) : WFit (slowW w acked mss) := by
  have h1 := mul_bd (show (0 : Int) ≤ 2 by decide) m.1
  have h2 := Sat.add_bd (a := w.cw) (b := min acked (Sat.mul 2 mss)) h.cw.1 (by unfold U at *; omega)
  exact { h with cw := h2 }
theorem fit_grow {w : Wn} (h : WFit w) {acked mss : Int} (a : U acked) (m : U mss) : WFit (growR w acked mss) := by
  have h2 := Sat.add_bd (a := w.ac) (b := acked) h.ac.1 a.1
  have h3 := Sat.add_bd (a := w.cw) (b := mss) h.cw.1 m.1
  unfold growR
  split
  · exact fit_slow h a m
  · split
    · exact { h with ac := (show U (Sat.add w.ac acked - w.cw) by have := h.cw; unfold U at *; omega), cw := h3 }
    · exact { h with ac := h2 }
end Go.Proofs.Ytbamdilihpnhjaa.RenoPlain
