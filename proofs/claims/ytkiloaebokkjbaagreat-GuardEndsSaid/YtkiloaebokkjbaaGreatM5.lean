/-
  Several texts in one: TrigPlain, TrigNamed.
-/
import Derived.Test.YtkiloaebokkjbaaGreatM4
import Derived.Test.YtkiloaebokkjbaaGreatM3
/-
  Which number an acknowledgment names, as the document defines it. Plain.
-/
set_option linter.unusedSimpArgs false
set_option linter.unusedVariables false
namespace Go.Proofs.YtkiloaebokkjbaaGreat.LedPlain
set_option linter.unusedVariables false
open Go.Proofs.YtkiloaebokkjbaaGreat.SpanPlain
open Go.Proofs.YtkiloaebokkjbaaGreat.AckPlain (K)

/-- Does a row claim a number below low? -/
def belowB (l : List Sp) (low : Int) : Bool := decide (0 < l.length) && decide ((l.getD 0 (0, 0)).1 < low)
/-- Is it the one that is named? -/
def namesB (x : K) (s : Sn) : Bool := decide (s.state ≠ 4) && !s.used && (s.nonce == x.trigger) && has x.spans s.pn
def firstT (x : K) : List Sn → Int × Int
  | [] => (0, 3)
  | s :: t => if namesB x s = true then (s.pn, 0) else firstT x t
def lookG (g : Lg) (x : K) : Int × Int := if AckPlain.may x = false then (0, 1) else if belowB x.spans (lowN g) = true then (0, 2) else firstT x (allS g)
theorem may_le {x : K} (h : AckPlain.may x = true) : x.spans.length ≤ 32 ∧ x.marked.length ≤ 32 := by
  unfold AckPlain.may at h
  simp only [Bool.and_eq_true, decide_eq_true_eq] at h
  omega
theorem firstT_step {x : K} {l : List Sn} {k : Nat} (h : k < l.length) : firstT x (l.drop k) = if namesB x (l.getD k Z8) = true then ((l.getD k Z8).pn, 0) else firstT x (l.drop (k + 1)) := by
  rw [List.drop_eq_getElem_cons h, firstT, show l.getD k Z8 = l[k] by simp [List.getD, h]]
end Go.Proofs.YtkiloaebokkjbaaGreat.LedPlain

/-
  What is named is there: plain facts of lookG.
-/
set_option linter.unusedSimpArgs false
set_option linter.unusedVariables false
namespace Go.Proofs.YtkiloaebokkjbaaGreat.LedPlain
set_option linter.unusedVariables false
open Go.Proofs.YtkiloaebokkjbaaGreat.SpanPlain
open Go.Proofs.YtkiloaebokkjbaaGreat.AckPlain (K)

theorem firstT_cases (x : K) : ∀ l : List Sn, (firstT x l = (0, 3) ∧ ∀ s ∈ l, namesB x s = false) ∨ ∃ s ∈ l, namesB x s = true ∧ firstT x l = (s.pn, 0)
  | [] => .inl ⟨rfl, fun _ h => by cases h⟩
  | s :: t => by
    by_cases h : namesB x s = true
    · exact .inr ⟨s, by simp, h, by rw [firstT, if_pos h]⟩
    · rcases firstT_cases x t with ⟨h1, h2⟩ | ⟨s', h1, h2, h3⟩
      · exact .inl ⟨by rw [firstT, if_neg h, h1], fun y hy => by
          rcases List.mem_cons.1 hy with rfl | hy
          · simpa using h
          · exact h2 y hy⟩
      · exact .inr ⟨s', by simp [h1], h2, by rw [firstT, if_neg h, h3]⟩
theorem look_cases {g : Lg} (h : Ok g) (x : K) : ((lookG g x).1 = 0 ∧ ((lookG g x).2 = 1 ∧ AckPlain.may x = false ∨ (lookG g x).2 = 2 ∧ belowB x.spans (lowN g) = true ∨ (lookG g x).2 = 3 ∧ belowB x.spans (lowN g) = false ∧ ∀ s ∈ allS g, namesB x s = false)) ∨
    ∃ i : Nat, lowN g ≤ i ∧ i < g.l.length ∧ lookG g x = ((i : Int), 0) ∧ namesB x (atN g i) = true := by
  unfold lookG
  by_cases h1 : AckPlain.may x = false
  · rw [if_pos h1]
    exact .inl ⟨rfl, .inl ⟨rfl, h1⟩⟩
  rw [if_neg h1]
  by_cases h2 : belowB x.spans (lowN g) = true
  · rw [if_pos h2]
    exact .inl ⟨rfl, .inr (.inl ⟨rfl, h2⟩)⟩
  rw [if_neg h2]
  rcases firstT_cases x (allS g) with ⟨e, hall⟩ | ⟨s, hs, hn, e⟩
  · rw [e]
    exact .inl ⟨rfl, .inr (.inr ⟨rfl, by simpa using h2, hall⟩)⟩
  · unfold allS at hs
    obtain ⟨j, hj, rfl⟩ := List.mem_iff_getElem.1 hs
    rw [List.length_drop] at hj
    have hat : (g.l.drop (lowN g))[j] = atN g (lowN g + j) := by
      unfold atN
      rw [List.getElem_drop, List.getD_eq_getElem?_getD, List.getElem?_eq_getElem (by omega), Option.getD_some]
    rw [hat] at hn e
    obtain ⟨hpn, _⟩ := h.each (lowN g + j) (by omega)
    exact .inr ⟨lowN g + j, by omega, by omega, by rw [e, hpn], hn⟩
theorem names_parts {x : K} {s : Sn} (h : namesB x s = true) : s.state ≠ 4 ∧ s.used = false ∧ s.nonce = x.trigger ∧ has x.spans s.pn = true := by
  unfold namesB at h
  simp only [Bool.and_eq_true, decide_eq_true_eq, Bool.not_eq_true', beq_iff_eq] at h
  exact ⟨h.1.1.1, h.1.1.2, h.1.2, h.2⟩
/-- No number below m that is kept is named. -/
def NoneTo (g : Lg) (x : K) (m : Nat) : Prop := ∀ j, lowN g ≤ j → j < m → namesB x (atN g j) = false
theorem firstT_first (x : K) : ∀ l : List Sn, ∀ r : Int × Int, firstT x l = r → r.2 = 0 → ∃ j, j < l.length ∧ namesB x (l.getD j Z8) = true ∧ r.1 = (l.getD j Z8).pn ∧ ∀ i, i < j → namesB x (l.getD i Z8) = false
  | [], r, h, h0 => by
    rw [firstT] at h
    subst h
    cases h0
  | s :: t, r, h, h0 => by
    rw [firstT] at h
    by_cases hs : namesB x s = true
    · rw [if_pos hs] at h
      subst h
      exact ⟨0, by simp, by simpa using hs, by simp, fun i hi => by omega⟩
    · rw [if_neg hs] at h
      obtain ⟨j, h1, h2, h3, h4⟩ := firstT_first x t r h h0
      refine ⟨j + 1, by simp only [List.length_cons]; omega, by simpa using h2, by simpa using h3, fun i hi => ?_⟩
      cases i with
      | zero => simpa using hs
      | succ i => simpa using h4 i (by omega)
theorem look_first {g : Lg} (h : Ok g) {x : K} {i : Nat} (hi : lookG g x = ((i : Int), 0)) : lowN g ≤ i ∧ i < g.l.length ∧ namesB x (atN g i) = true ∧ NoneTo g x i := by
  unfold lookG at hi
  by_cases h1 : AckPlain.may x = false
  · rw [if_pos h1] at hi
    injection hi with _ h2
    cases h2
  rw [if_neg h1] at hi
  by_cases h2 : belowB x.spans (lowN g) = true
  · rw [if_pos h2] at hi
    injection hi with _ h2
    cases h2
  rw [if_neg h2] at hi
  obtain ⟨j, h3, h4, h5, h6⟩ := firstT_first x _ _ hi rfl
  have hat : ∀ i, (allS g).getD i Z8 = atN g (lowN g + i) := fun i => by
    unfold allS atN
    rw [drop_getD]
  unfold allS at h3
  rw [List.length_drop] at h3
  rw [hat] at h4 h5
  have hpn := (h.each (lowN g + j) (by omega)).1
  simp only at h5
  rw [hpn] at h5
  have e : i = lowN g + j := by omega
  subst e
  exact ⟨by omega, by omega, h4, fun k k1 k2 => by
    have := h6 (k - lowN g) (by omega)
    rwa [hat, show lowN g + (k - lowN g) = k by omega] at this⟩
theorem use_named {g : Lg} {x : K} {i : Nat} (h1 : lowN g ≤ i) (h2 : i < g.l.length) (hn : namesB x (atN g i) = true) (hp : NoneTo g x i) :
    useB g i = true ∧ lowN (useG g i) = lowN g ∧ (useG g i).l.length = g.l.length ∧ NoneTo (useG g i) x (i + 1) := by
  obtain ⟨n1, n2, _, _⟩ := names_parts hn
  have hu : useB g i = true := by
    unfold useB keptN
    simp only [decide_eq_true_eq, Int.toNat_natCast]
    exact ⟨⟨by omega, by omega⟩, n1, n2⟩
  have hg : useG g i = { g with l := g.l.set i { atN g i with used := true } } := by
    unfold useG
    rw [if_pos hu, Int.toNat_natCast]
  refine ⟨hu, by rw [hg]; unfold lowN; simp, by rw [hg]; simp, fun j j1 j2 => ?_⟩
  rw [hg]
  rw [show lowN (useG g i) = lowN g by rw [hg]; unfold lowN; simp] at j1
  by_cases e : i = j
  · subst e
    rw [at_set h2]
    unfold namesB
    simp
  · rw [at_set_ne e]
    exact hp j j1 (by omega)
end Go.Proofs.YtkiloaebokkjbaaGreat.LedPlain
