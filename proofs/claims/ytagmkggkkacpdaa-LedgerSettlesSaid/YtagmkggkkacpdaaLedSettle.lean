/-
  What use and settlements leave of one number. Plain.
-/
import Derived.Test.YtagmkggkkacpdaaLedPlain
namespace Go.Proofs.Ytagmkggkkacpdaa.LedPlain
set_option linter.unusedVariables false

def useS (s : Sn) : Sn := if s.state ≠ 4 ∧ s.used = false then { s with used := true } else s
def settleS (s : Sn) (st : Int) : Sn := if (st = 2 ∧ (s.state = 1 ∨ s.state = 3)) ∨ (st = 3 ∧ s.state = 1) then { s with state := st } else s
theorem kept_set {g : Lg} {pn : Int} (k : Nat) (s : Sn) : keptN { g with l := g.l.set k s } pn ↔ keptN g pn := by
  unfold keptN
  rw [low_set]
  simp
theorem use_at {g : Lg} {pn : Int} (h : keptN g pn) : keptN (useG g pn) pn ∧ atN (useG g pn) pn.toNat = useS (atN g pn.toNat) := by
  have hk : pn.toNat < g.l.length := by unfold keptN at h; omega
  unfold useG
  split
  · rename_i hu
    have hu := of_decide_eq_true hu
    exact ⟨(kept_set _ _).2 h, by rw [at_set hk]; unfold useS; rw [if_pos ⟨hu.2.1, hu.2.2⟩]⟩
  · rename_i hu
    refine ⟨h, ?_⟩
    unfold useS
    rw [if_neg fun q => hu (decide_eq_true ⟨h, q.1, q.2⟩)]
theorem settle_at {g : Lg} {pn : Int} (h : keptN g pn) (st : Int) : keptN (settleG g pn st) pn ∧ atN (settleG g pn st) pn.toNat = settleS (atN g pn.toNat) st := by
  have hk : pn.toNat < g.l.length := by unfold keptN at h; omega
  unfold settleG
  split
  · rename_i hu
    have hu := of_decide_eq_true hu
    exact ⟨(kept_set _ _).2 h, by rw [at_set hk]; unfold settleS; rw [if_pos hu.2]⟩
  · rename_i hu
    refine ⟨h, ?_⟩
    unfold settleS
    rw [if_neg fun q => hu (decide_eq_true ⟨h, q⟩)]
/-- Behind two uses, a loss, an acknowledgment, and any settlement. -/
def lastG (g : Lg) (pn st : Int) : Lg := settleG (settleG (settleG (useG (useG g pn) pn) pn 3) pn 2) pn st
theorem last_at {g : Lg} {pn st : Int} {s : Sn} (h : keptN g pn) (hs : atN g pn.toNat = s) (h1 : 1 ≤ s.state) (h4 : s.state ≤ 4) :
    useB g pn = (decide (s.state ≠ 4) && !s.used) ∧ useB (useG g pn) pn = false ∧ settleB (useG (useG g pn) pn) pn 3 = decide (s.state = 1) ∧ settleB (settleG (useG (useG g pn) pn) pn 3) pn 2 = decide (s.state = 1 ∨ s.state = 3) ∧
      settleB (settleG (settleG (useG (useG g pn) pn) pn 3) pn 2) pn st = false ∧ getS (lastG g pn st) pn = (if s.state = 4 then s else { s with used := true, state := 2 }) ∧ hasN (lastG g pn st) pn = true := by
  obtain ⟨k1, e1⟩ := use_at h
  obtain ⟨k2, e2⟩ := use_at k1
  obtain ⟨k3, e3⟩ := settle_at k2 3
  obtain ⟨k4, e4⟩ := settle_at k3 2
  obtain ⟨k5, e5⟩ := settle_at k4 st
  rw [hs] at e1
  rw [e1] at e2
  rw [e2] at e3
  rw [e3] at e4
  rw [e4] at e5
  have hg : getS (lastG g pn st) pn = settleS (settleS (settleS (useS (useS s)) 3) 2) st := by
    unfold getS lastG
    rw [if_pos k5, e5]
  have hh : hasN (lastG g pn st) pn = true := decide_eq_true k5
  rw [hg, hh]
  unfold useB settleB
  rw [hs, e1, e2, e3, e4]
  obtain ⟨p0, p1, p2, p3, p4, p5, u, v⟩ := s
  simp only at h1 h4
  have hv : v = 1 ∨ v = 2 ∨ v = 3 ∨ v = 4 := by omega
  rcases hv with rfl | rfl | rfl | rfl <;> cases u <;> simp [useS, settleS, h, k1, k2, k3, k4]
theorem last_none {g : Lg} {pn st : Int} (h : ¬ keptN g pn) : useB g pn = false ∧ useG g pn = g ∧ (∀ st, settleB g pn st = false) ∧ (∀ st, settleG g pn st = g) := by
  have h1 : useB g pn = false := decide_eq_false fun q => h q.1
  have h2 : ∀ st, settleB g pn st = false := fun st => decide_eq_false fun q => h q.1
  exact ⟨h1, by unfold useG; rw [h1]; rfl, h2, fun st => by unfold settleG; rw [h2]; rfl⟩
end Go.Proofs.Ytagmkggkkacpdaa.LedPlain
