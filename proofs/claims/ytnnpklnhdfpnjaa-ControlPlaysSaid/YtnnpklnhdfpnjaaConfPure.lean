/-
  Which configurations may be: plain facts on the seventeen Bools.
-/
import Derived.Test.YtnnpklnhdfpnjaaConfRef
import Derived.Test.YtnnpklnhdfpnjaaConfLaw0
import Derived.Test.YtnnpklnhdfpnjaaConfTurn
set_option linter.unusedSimpArgs false
set_option linter.unusedVariables false
namespace Go.Proofs.Ytnnpklnhdfpnjaa.Conf
set_option linter.unusedVariables false
open Go.Proofs.Ytnnpklnhdfpnjaa.ConfPlain

theorem mul_two {m : Int} (h0 : 1 ≤ m) (h1 : m ≤ 40) : Sat.mul 2 m = 2 * m := by
  unfold Sat.mul
  omega
/-- Numbers made to fit together, whatever the greatest number, whatever is skipped. -/
theorem flags_made {c : C} (h : Made c) {o l : Int} (l1 : l ≤ 4611686018427387903) : flags { c with one := o, limit := l } = [true, o != 1] ++ List.replicate 15 true := by
  unfold Made at h
  unfold flags
  dsimp only
  have hm := mul_two (m := c.mss) (by omega) (by omega)
  rw [hm]
  have ha : ((c.algo == 1) || (c.algo == 2)) = true := by
    have : c.algo = 1 ∨ c.algo = 2 := by omega
    rcases this with h | h <;> rw [h] <;> rfl
  rw [ha]
  simp only [Bool.and_eq_true, decide_eq_true_eq, List.replicate, List.cons_append, List.nil_append, List.cons.injEq, and_true, true_and]
  omega
theorem pos_made {c : C} (h : Made c) {o l : Int} (l1 : l ≤ 4611686018427387903) : pos (flags { c with one := o, limit := l }) = if o = 1 then 2 else 0 := by
  rw [flags_made h l1]
  by_cases ho : o = 1
  · subst ho
    rfl
  · have : (o != 1) = true := by simpa using ho
    rw [this, if_neg ho]
    rfl
theorem pos_fit {c : C} (h : Made c) : pos (flags c) = 0 := by
  have h' := h
  unfold Made at h'
  have := pos_made h (o := c.one) (l := c.limit) (by omega)
  rw [if_neg (by omega)] at this
  exact this
theorem pos_range (c : C) : 0 ≤ pos (flags c) ∧ pos (flags c) ≤ 17 := by
  have : ∀ (l : List Bool) (k : Nat), 0 ≤ bad k l ∧ bad k l ≤ k + l.length := by
    intro l
    induction l with
    | nil => intro k; simp [bad]
    | cons b r ih =>
      intro k
      have := ih (k + 1)
      unfold bad
      rw [List.length_cons]
      cases b <;> simp <;> omega
  have := this (flags c) 0
  rw [flags_len] at this
  unfold pos
  omega
theorem made_rng {c : C} (h : Made c) {o l : Int} (o0 : 0 ≤ o) (o1 : o ≤ 18446744073709551615) (l0 : 0 ≤ l) (l1 : l ≤ 4611686018427387903) : Rng { c with one := o, limit := l } := by
  unfold Made at h
  unfold Rng
  dsimp only
  omega
theorem mss_lo {c : C} (h : Rng c) : 0 ≤ c.mss := by unfold Rng at h; omega
theorem mss_hi {c : C} (h : Rng c) : c.mss ≤ 18446744073709551615 := by unfold Rng at h; omega
theorem made_fit {c : C} (h : Made c) : Rng c := by
  unfold Made at h
  unfold Rng
  omega
end Go.Proofs.Ytnnpklnhdfpnjaa.Conf
