/-
  What a bucket gave at a row of times: the plain half of PacerBounds' two loops.
-/
import Derived.Test.YtbamdilihpnhjaaPacerSteps
set_option linter.unusedSimpArgs false
set_option linter.unusedVariables false
namespace Go.Proofs.Ytbamdilihpnhjaa.PacerPlain
set_option linter.unusedVariables false
open Go.Proofs.Ytbamdilihpnhjaa.RenoPlain

/-- A turn: when, what went, the rate behind it, what was left. -/
structure Tk where
  at_ : Int
  went : Int
  rate : Int
  y : Int
def tk0 : Tk := ⟨0, 0, 0, 0⟩
structure TkOk (B : Int) (j : Nat) (t : Tk) : Prop where
  w0 : 0 ≤ t.went
  w1 : t.went ≤ 65535
  y0 : 0 ≤ t.y
  r0 : 0 ≤ t.rate
  r1 : t.rate ≤ 4294967296
  fill : t.y + t.went * 1000000 ≤ B
  a0 : 0 ≤ t.at_
  a1 : t.at_ ≤ 65535 * (j + 1)
structure Link (s t : Tk) : Prop where
  at_ : s.at_ ≤ t.at_
  flow : t.y + t.went * 1000000 ≤ s.y + s.rate * (t.at_ - s.at_)
structure Chain (B : Int) (T : List Tk) : Prop where
  ok : ∀ j, j < T.length → TkOk B j (T.getD j tk0)
  link : ∀ j, j + 1 < T.length → Link (T.getD j tk0) (T.getD (j + 1) tk0)
theorem chain_nil (B : Int) : Chain B [] := ⟨fun j h => by simp at h, fun j h => by simp at h⟩
theorem getD_snoc_lt {T : List Tk} {t : Tk} {j : Nat} (h : j < T.length) : (T ++ [t]).getD j tk0 = T.getD j tk0 := by
  simp only [List.getD_eq_getElem?_getD]
  rw [List.getElem?_append_left h]
theorem getD_snoc_at (T : List Tk) (t : Tk) : (T ++ [t]).getD T.length tk0 = t := by
  simp [List.getD_eq_getElem?_getD]
theorem Chain.snoc {B : Int} {T : List Tk} {t : Tk} (h : Chain B T) (ht : TkOk B T.length t) (hl : ∀ j, j + 1 = T.length → Link (T.getD j tk0) t) : Chain B (T ++ [t]) := by
  refine ⟨fun j hj => ?_, fun j hj => ?_⟩
  · rw [List.length_append, List.length_singleton] at hj
    by_cases e : j = T.length
    · subst e
      rw [getD_snoc_at]
      exact ht
    · rw [getD_snoc_lt (by omega)]
      exact h.ok j (by omega)
  · rw [List.length_append, List.length_singleton] at hj
    rw [getD_snoc_lt (show j < T.length by omega)]
    by_cases e : j + 1 = T.length
    · rw [e, getD_snoc_at]
      exact hl j e
    · rw [getD_snoc_lt (by omega)]
      exact h.link j (by omega)
/-- What the inner loop knows ahead of its turn k. -/
def Span (B : Int) (T : List Tk) (i k : Nat) (n r : Int) : Prop :=
  0 ≤ n ∧ n ≤ 65535 * ((k : Int) - i) ∧ 0 ≤ r ∧ r ≤ 4294967296 ∧ ((k = i ∧ n = 0 ∧ r = 0) ∨ ∃ p, k = p + 1 ∧ i ≤ p ∧ (T.getD p tk0).rate ≤ r ∧ (T.getD i tk0).at_ ≤ (T.getD p tk0).at_ ∧ n * 1000000 + (T.getD p tk0).y ≤ B + r * ((T.getD p tk0).at_ - (T.getD i tk0).at_))
theorem span_start (B : Int) (T : List Tk) (i : Nat) : Span B T i i 0 0 := ⟨Int.le_refl _, by omega, Int.le_refl _, by decide, .inl ⟨rfl, rfl, rfl⟩⟩
theorem span_step {B : Int} {T : List Tk} {i k : Nat} {n r : Int} (h : Chain B T) (hi : i ≤ k) (hk : k < T.length) (hs : Span B T i k n r) :
    Span B T i (k + 1) (n + (T.getD k tk0).went) (max r (T.getD k tk0).rate) ∧ (T.getD i tk0).at_ ≤ (T.getD k tk0).at_ ∧
      (n + (T.getD k tk0).went) * 1000000 ≤ B + max r (T.getD k tk0).rate * ((T.getD k tk0).at_ - (T.getD i tk0).at_) := by
  obtain ⟨n0, n1, r0, r1, hc⟩ := hs
  have hok := h.ok k hk
  have w0 := hok.w0
  have w1 := hok.w1
  have y0 := hok.y0
  have q0 := hok.r0
  have q1 := hok.r1
  have key : (T.getD i tk0).at_ ≤ (T.getD k tk0).at_ ∧ (n + (T.getD k tk0).went) * 1000000 + (T.getD k tk0).y ≤ B + max r (T.getD k tk0).rate * ((T.getD k tk0).at_ - (T.getD i tk0).at_) := by
    rcases hc with ⟨rfl, rfl, rfl⟩ | ⟨p, rfl, hp, h1, h2, h3⟩
    · have hf := hok.fill
      refine ⟨Int.le_refl _, ?_⟩
      rw [Int.sub_self, Int.mul_zero]
      omega
    · have hl := h.link p hk
      have ha := hl.at_
      have hf := hl.flow
      exact ⟨by omega, span_is h3 hf h1 h2 ha _ (Int.le_max_left _ _)⟩
  refine ⟨⟨by omega, by omega, by omega, by omega, .inr ⟨k, rfl, hi, Int.le_max_right _ _, key.1, key.2⟩⟩, key.1, by have := key.2; omega⟩
/-- A take or another rate and a take: the bucket behind it, and what the row gets. -/
theorem turn_row {b : Int} {T : List Tk} {p : Pc} {k : Nat} (hT : T.length = k) (hk : k < 60) (h : Chain (b * 1000000) T) (b0 : 0 ≤ b) (b1 : b ≤ 65535) (t0 : 0 ≤ p.tok) (t1 : p.tok ≤ b * 1000000) (a0 : 0 ≤ p.at_) (a1 : p.at_ ≤ 65535 * k) (r0 : 0 ≤ p.rate) (r1 : p.rate ≤ 4294967296)
    (hl : ∀ j, j + 1 = T.length → (T.getD j tk0).at_ = p.at_ ∧ (T.getD j tk0).rate = p.rate ∧ (T.getD j tk0).y = p.tok)
    {d s x : Int} (g : Bool) (d0 : 0 ≤ d) (d1 : d ≤ 65535) (s0 : 0 ≤ s) (s1 : s ≤ 65535) (x0 : 0 ≤ x) (x1 : x ≤ 4294967295) :
    ∃ q n, takeP (if g then setP p b (p.at_ + d) x else p) b (p.at_ + d) s = q ∧ (if takeB (if g then setP p b (p.at_ + d) x else p) b (p.at_ + d) s = true then s else 0) = n ∧ 0 ≤ n ∧ n ≤ 65535 ∧
      Chain (b * 1000000) (T ++ [⟨q.at_, n, q.rate, q.tok⟩]) ∧ 0 ≤ q.tok ∧ q.tok ≤ b * 1000000 ∧ q.at_ = p.at_ + d ∧ q.at_ ≤ 65535 * ((k : Int) + 1) ∧ 0 ≤ q.rate ∧ q.rate ≤ 4294967296 := by
  obtain ⟨t, a, r⟩ := p
  dsimp only at *
  obtain ⟨y, n, z, h1, h2, h3, h4, h5, h6, h7, h8, h9⟩ := turn_is (t := t) (a := a) (r := r) (b := b) (d := d) (s := s) (x := x) g t0 t1 a0 (by omega) r0 r1 b0 b1 d0 d1 s0 s1 x0 x1
  refine ⟨⟨y, a + d, z⟩, n, h1, h2, h3, h4, h.snoc ?_ fun j hj => ?_, h5, by dsimp only; omega, rfl, by dsimp only; omega, h6, h7⟩
  · exact ⟨h3, h4, h5, h6, h7, h8, by dsimp only; omega, by dsimp only; omega⟩
  · obtain ⟨e1, e2, e3⟩ := hl j hj
    refine ⟨by dsimp only; omega, ?_⟩
    dsimp only
    rw [e1, e2, e3, show a + d - a = d by omega]
    exact h9
end Go.Proofs.Ytbamdilihpnhjaa.PacerPlain
