/-
  Each probe is twice as long behind the last one, the most at most: the numbers.
-/
import Derived.Test.YtehmeopbenmeiaaProbePlain
set_option linter.unusedSimpArgs false
set_option linter.unusedVariables false
namespace Go.Proofs.Ytehmeopbenmeiaa.ProbePlain
set_option linter.unusedVariables false

theorem deadline_fly (c f t m : Int) : deadlineP ⟨c, f⟩ true t m = Sat.add f (backoff t c m) := by
  unfold deadlineP
  rw [if_pos rfl]
theorem backoff_zero {a m : Int} (a1 : a ≤ 18446744073709551615) : backoff a 0 m = min a m := by
  unfold backoff
  rw [Sat.shl_neg a1 (by omega)]
theorem backoff_next {a m : Int} (a0 : 0 ≤ a) (m0 : 0 ≤ m) (m1 : m ≤ 18446744073709551615) (k : Nat) : min (Sat.mul (backoff a k m) 2) m = backoff a ((k : Int) + 1) m := by
  have h := Sat.pw_succ a k
  have h0 := Sat.pw_nonneg a0 k
  have e : ((k : Int) + 1).toNat = k + 1 := by omega
  unfold backoff Sat.shl Sat.mul
  rw [e, h, show (k : Int).toNat = k from rfl]
  generalize Sat.pw a k = x at *
  (repeat' split) <;> omega
end Go.Proofs.Ytehmeopbenmeiaa.ProbePlain
