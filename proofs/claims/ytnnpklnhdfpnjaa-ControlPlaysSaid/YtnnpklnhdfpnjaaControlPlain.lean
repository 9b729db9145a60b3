/-
  Congestion controls, as the document defines them. Plain.
-/
import Derived.Test.YtnnpklnhdfpnjaaCubicPlain
import Derived.Test.YtnnpklnhdfpnjaaRoundPlain
import Derived.Test.YtnnpklnhdfpnjaaConfRef
import Derived.Test.YtnnpklnhdfpnjaaConfTurn
set_option linter.unusedSimpArgs false
set_option linter.unusedVariables false
namespace Go.Proofs.Ytnnpklnhdfpnjaa.ControlPlain
set_option linter.unusedVariables false
open Go.Proofs.Ytnnpklnhdfpnjaa.RenoPlain Go.Proofs.Ytnnpklnhdfpnjaa.CubicPlain Go.Proofs.Ytnnpklnhdfpnjaa.RoundPlain Go.Proofs.Ytnnpklnhdfpnjaa.ConfPlain Go.Proofs.Ytnnpklnhdfpnjaa.Conf

/-- A control's state. -/
structure Kc where
  w : Wn
  d : Rd
  deriving DecidableEq
structure KFit (s : Kc) : Prop where
  w : WFit s.w
  d : DFit s.d
/-- What a control asks of a configuration's numbers: that they are words. -/
structure CFit (c : C) : Prop where
  mss : U c.mss
  ini : U c.initial
  lst : U c.least
  mst : U c.most
  rng : Rng c
def clampW (c : C) (w : Wn) : Wn := { w with cw := Sat.clamp w.cw c.least c.most }
def zeroK : Kc := ⟨⟨0, 0, 0, 0, 0, 0, 0⟩, ⟨0, 0⟩⟩
def firstK (c : C) : Kc := ⟨⟨c.initial, 18446744073709551615, 0, 0, 18446744073709551615, 0, 0⟩, ⟨0, 0⟩⟩
def startK (c : C) : Kc := if pos (flags c) = 0 then firstK c else zeroK
def growK (c : C) (w : Wn) (acked now smooth : Int) : Wn := if c.algo = 1 then growR w acked c.mss else growC w acked c.mss now smooth
def ackK (c : C) (s : Kc) (acked now smooth : Int) : Kc := if pos (flags c) = 0 then ⟨clampW c (growK c s.w acked now smooth), s.d⟩ else s
def cutV (c : C) (w : Wn) (r q : Int) : Wn := if c.algo = 1 then cutR w r 20 else cutC w q 20
def cutK (c : C) (w : Wn) (r q : Int) : Wn := { cutV c w r q with cw := Sat.clamp (cutV c w r q).cw c.least c.most, th := max (cutV c w r q).th c.least }
def lossB (c : C) (s : Kc) (pn : Int) : Bool := decide (pos (flags c) = 0) && decide (s.d.end_ ≤ pn)
def lossK (c : C) (s : Kc) (pn next r q : Int) : Kc := if lossB c s pn = true then ⟨cutK c s.w r q, beginP s.d pn next⟩ else s
def fallK (c : C) (s : Kc) : Kc := if pos (flags c) = 0 then ⟨{ cutK c s.w 10 14 with cw := c.least }, s.d⟩ else s
theorem clamp_bd {x lo hi : Int} (hx : U x) (h0 : U lo) (h1 : U hi) : U (Sat.clamp x lo hi) := by
  unfold Sat.clamp U at *
  split
  · omega
  · split <;> omega
theorem fit_clamp {c : C} (hc : CFit c) {w : Wn} (h : WFit w) : WFit (clampW c w) := { h with cw := clamp_bd h.cw hc.lst hc.mst }
theorem uZ : U 0 := ⟨by decide, by decide⟩
theorem uT : U 18446744073709551615 := ⟨by decide, by decide⟩
theorem fit_zero : KFit zeroK := ⟨⟨uZ, uZ, uZ, uZ, uZ, uZ, uZ⟩, (show DFit ⟨0, 0⟩ from ⟨by decide, by decide, by decide, by decide⟩)⟩
theorem fit_start {c : C} (hc : CFit c) : KFit (startK c) := by
  unfold startK
  split
  · exact ⟨⟨hc.ini, uT, uZ, uZ, uT, uZ, uZ⟩, (show DFit ⟨0, 0⟩ from ⟨by decide, by decide, by decide, by decide⟩)⟩
  · exact fit_zero
theorem fit_growK {c : C} (hc : CFit c) {w : Wn} (h : WFit w) {acked now smooth : Int} (a : U acked) (n : U now) (s : U smooth) : WFit (growK c w acked now smooth) := by
  unfold growK
  split
  · exact fit_grow h a hc.mss
  · exact fit_growC h a hc.mss n s
theorem fit_ack {c : C} (hc : CFit c) {s : Kc} (h : KFit s) {acked now smooth : Int} (a : U acked) (n : U now) (m : U smooth) : KFit (ackK c s acked now smooth) := by
  unfold ackK
  split
  · exact ⟨fit_clamp hc (fit_growK hc h.w a n m), h.d⟩
  · exact h
theorem fit_cutV {c : C} {w : Wn} (h : WFit w) {r q : Int} (hr : U r) (hq : U q) : WFit (cutV c w r q) := by
  have u : U 20 := ⟨by decide, by decide⟩
  unfold cutV
  split
  · exact fit_cut h hr u
  · exact fit_cutC h hq u
theorem fit_cutK {c : C} (hc : CFit c) {w : Wn} (h : WFit w) {r q : Int} (hr : U r) (hq : U q) : WFit (cutK c w r q) := by
  have hv := fit_cutV (c := c) h hr hq
  have h1 := hv.th
  have h2 := hc.lst
  exact { hv with cw := clamp_bd hv.cw hc.lst hc.mst, th := (show U (max (cutV c w r q).th c.least) by unfold U at *; omega) }
theorem fit_loss {c : C} (hc : CFit c) {s : Kc} (h : KFit s) {pn next r q : Int} (p : U pn) (n : U next) (hr : U r) (hq : U q) : KFit (lossK c s pn next r q) := by
  unfold lossK
  split
  · exact ⟨fit_cutK hc h.w hr hq, RoundPlain.fit_begin h.d p.1 n.1 n.2⟩
  · exact h
theorem fit_fall {c : C} (hc : CFit c) {s : Kc} (h : KFit s) : KFit (fallK c s) := by
  unfold fallK
  split
  · have hv := fit_cutK hc h.w (r := 10) (q := 14) ⟨by decide, by decide⟩ ⟨by decide, by decide⟩
    exact ⟨{ hv with cw := hc.lst }, h.d⟩
  · exact h
theorem loss_no {c : C} {s : Kc} {pn next r q : Int} (h : lossB c s pn = false) : lossK c s pn next r q = s := by
  unfold lossK
  rw [if_neg (by rw [h]; decide)]
theorem loss_yes {c : C} {s : Kc} {pn next r q : Int} (h : lossB c s pn = true) : lossK c s pn next r q = ⟨cutK c s.w r q, beginP s.d pn next⟩ := by
  unfold lossK
  rw [if_pos h]
end Go.Proofs.Ytnnpklnhdfpnjaa.ControlPlain
