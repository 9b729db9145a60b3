/-
  The contracts of root.cube, root.Below and of the reference's Under. Below the heap's size the world is as it was.
-/
import Derived.Test.YtnnpklnhdfpnjaaWide
import Derived.Test.YtnnpklnhdfpnjaaRootPlain
set_option linter.unusedSimpArgs false
set_option linter.unusedVariables false
namespace Go.Proofs.Ytnnpklnhdfpnjaa.Root
open Go.ChangeShapes Go.WideShapes Go.ChangeAt Go.RowKit Go.Proofs.Ytnnpklnhdfpnjaa.Wide Go.Proofs.Ytnnpklnhdfpnjaa.Base
set_option linter.unusedVariables false
set_option maxRecDepth 20000

theorem ref_under_big (r hi lo : Int) (h : 8796093022208 ≤ r) (w : World) :
    Calls Try.prog 78 #[.int .u64 r, .int .u64 hi, .int .u64 lo] w fun e w' => e = .returned (.bool false) ∧ w = w' := by
  go_enter Try.func78, Try.ntmps78
  go_wp2
  go_ret
  exact ⟨rfl, rfl⟩
theorem mul_to {a b h l : Int} (a0 : 0 ≤ a) (a1 : a ≤ 18446744073709551615) (b0 : 0 ≤ b) (b1 : b ≤ 18446744073709551615) (eh : a * b / 18446744073709551616 = h) (el : a * b % 18446744073709551616 = l) (w : World) :
    Calls Try.prog 73 #[.int .u64 a, .int .u64 b] w fun e w' => e = .returned (.tuple #[.int .u64 h, .int .u64 l]) ∧ w = w' := by
  rw [← eh, ← el]
  exact mul_any a b a0 a1 b0 b1 w
theorem times_to {a b h l : Int} (a0 : 0 ≤ a) (a1 : a ≤ 18446744073709551615) (b0 : 0 ≤ b) (b1 : b ≤ 18446744073709551615) (eh : a * b / 18446744073709551616 = h) (el : a * b % 18446744073709551616 = l) (w : World) :
    Calls Try.prog 64 #[.int .u64 a, .int .u64 b] w fun e w' => e = .returned (.agg #[.int .u64 h, .int .u64 l]) ∧ Below w.heap.size w w' := by
  rw [← eh, ← el]
  exact ref_times a b a0 a1 b0 b1 w
theorem cube_no (r : Int) (r0 : 0 ≤ r) (r1 : r ≤ 18446744073709551615) (h : 340282366920938463463374607431768211456 ≤ cub r) (w : World) :
    Calls Try.prog 82 #[.int .u64 r] w fun e w' => e = .returned (.tuple #[.int .u64 0, .int .u64 0, .bool false]) ∧ w = w' := by
  obtain ⟨s, t, ov, up, mi, lo, es, et, eo, eu, em, el, ⟨s0, s1⟩, ⟨t0, t1⟩, ⟨o0, o1⟩, ⟨u0, u1⟩, ⟨m0, m1⟩, ⟨l0, l1⟩, hc⟩ := six r r0 r1
  by_cases ho : ov = 0
  · subst ho
    have e1 : (up + mi) / 18446744073709551616 = 1 := by omega
    clear hc h
    go_enter Try.func82, Try.ntmps82
    go_wp2_with (first
      | ((with_reducible refine (mul_to r0 r1 r0 r1 es et _).mono ?_); rintro e w' ⟨rfl, rfl⟩)
      | ((with_reducible refine (mul_to s0 s1 r0 r1 eo eu _).mono ?_); rintro e w' ⟨rfl, rfl⟩)
      | ((with_reducible refine (mul_to t0 t1 r0 r1 em el _).mono ?_); rintro e w' ⟨rfl, rfl⟩)
      | (simp only [Bits.add64_0 up mi u0 m0, e1]))
    go_ret3
    exact ⟨rfl, rfl⟩
  · have hb : (ov != 0) = true := by simp [ho]
    clear hc h
    go_enter Try.func82, Try.ntmps82
    go_wp2_with (first
      | ((with_reducible refine (mul_to r0 r1 r0 r1 es et _).mono ?_); rintro e w' ⟨rfl, rfl⟩)
      | ((with_reducible refine (mul_to s0 s1 r0 r1 eo eu _).mono ?_); rintro e w' ⟨rfl, rfl⟩)
      | ((with_reducible refine (mul_to t0 t1 r0 r1 em el _).mono ?_); rintro e w' ⟨rfl, rfl⟩)
      | (simp only [Bits.add64_0 up mi u0 m0]))
    go_ret3
    exact ⟨rfl, rfl⟩
theorem cube_yes (r : Int) (r0 : 0 ≤ r) (r1 : r ≤ 18446744073709551615) (h : cub r < 340282366920938463463374607431768211456) (w : World) :
    Calls Try.prog 82 #[.int .u64 r] w fun e w' => e = .returned (.tuple #[.int .u64 (cub r / 18446744073709551616), .int .u64 (cub r % 18446744073709551616), .bool true]) ∧ w = w' := by
  obtain ⟨s, t, ov, up, mi, lo, es, et, eo, eu, em, el, ⟨s0, s1⟩, ⟨t0, t1⟩, ⟨o0, o1⟩, ⟨u0, u1⟩, ⟨m0, m1⟩, ⟨l0, l1⟩, hc⟩ := six r r0 r1
  have ho : ov = 0 := by omega
  subst ho
  have e1 : (up + mi) / 18446744073709551616 = 0 := by omega
  have e2 := Lib.hid (show (up + mi) % 18446744073709551616 = cub r / 18446744073709551616 by omega)
  have e3 := Lib.hid (show lo = cub r % 18446744073709551616 by omega)
  clear hc h
  go_enter Try.func82, Try.ntmps82
  go_wp2_with (first
    | ((with_reducible refine (mul_to r0 r1 r0 r1 es et _).mono ?_); rintro e w' ⟨rfl, rfl⟩)
    | ((with_reducible refine (mul_to s0 s1 r0 r1 eo eu _).mono ?_); rintro e w' ⟨rfl, rfl⟩)
    | ((with_reducible refine (mul_to t0 t1 r0 r1 em el _).mono ?_); rintro e w' ⟨rfl, rfl⟩)
    | (simp only [Bits.add64_0 up mi u0 m0, e1]))
  go_ret3
  exact ⟨by rw [← e2.out, ← e3.out]; rfl, rfl⟩
/-- root.Below: is the cube of r at most n? -/
theorem below_any (r hi lo : Int) (r0 : 0 ≤ r) (r1 : r ≤ 18446744073709551615) (h0 : 0 ≤ hi) (h1 : hi ≤ 18446744073709551615) (l0 : 0 ≤ lo) (l1 : lo ≤ 18446744073709551615) (w : World) :
    Calls Try.prog 80 #[.int .u64 r, .int .u64 hi, .int .u64 lo] w fun e w' => e = .returned (.bool (decide (cub r ≤ hi * 18446744073709551616 + lo))) ∧ w = w' := by
  have c0 := cub_nonneg r0
  by_cases h : cub r < 340282366920938463463374607431768211456
  · by_cases hh : cub r / 18446744073709551616 = hi
    · subst hh
      go_enter Try.func80, Try.ntmps80
      go_wp2_with (go_at_call 82; refine (cube_yes r r0 r1 h _).mono ?_; rintro e w' ⟨rfl, rfl⟩)
      go_ret
      exact ⟨ret_bool (by rw [decide_eq_decide]; omega), rfl⟩
    · have hb : (cub r / 18446744073709551616 != hi) = true := by simp [hh]
      go_enter Try.func80, Try.ntmps80
      go_wp2_with (go_at_call 82; refine (cube_yes r r0 r1 h _).mono ?_; rintro e w' ⟨rfl, rfl⟩)
      go_ret
      exact ⟨ret_bool (by rw [decide_eq_decide]; omega), rfl⟩
  · have hf : decide (cub r ≤ hi * 18446744073709551616 + lo) = false := by rw [decide_eq_false_iff_not]; omega
    go_enter Try.func80, Try.ntmps80
    go_wp2_with (go_at_call 82; refine (cube_no r r0 r1 (by omega) _).mono ?_; rintro e w' ⟨rfl, rfl⟩)
    go_ret
    exact ⟨ret_bool hf.symm, rfl⟩
/-- The reference's Under: the same question. -/
theorem ref_under (r hi lo : Int) (r0 : 0 ≤ r) (r1 : r ≤ 18446744073709551615) (h0 : 0 ≤ hi) (h1 : hi ≤ 18446744073709551615) (l0 : 0 ≤ lo) (l1 : lo ≤ 18446744073709551615) (w : World) :
    Calls Try.prog 78 #[.int .u64 r, .int .u64 hi, .int .u64 lo] w fun e w' => e = .returned (.bool (decide (cub r ≤ hi * 18446744073709551616 + lo))) ∧ Below w.heap.size w w' := by
  by_cases hr : 8796093022208 ≤ r
  · have hf : decide (cub r ≤ hi * 18446744073709551616 + lo) = false := by
      have := cub_43 hr
      rw [decide_eq_false_iff_not]; omega
    rw [hf]
    refine (ref_under_big r hi lo hr w).mono ?_
    rintro e w' ⟨rfl, rfl⟩
    exact ⟨rfl, Below.refl _ _⟩
  · obtain ⟨s, t, ov, up, mi, lw, es, et, eo, eu, em, el, ⟨s0, s1⟩, ⟨t0, t1⟩, ⟨o0, o1⟩, ⟨u0, u1⟩, ⟨m0, m1⟩, ⟨w0, w1⟩, hc⟩ := six r r0 r1
    have HC := Lib.hid hc
    clear hc
    go_enter Try.func78, Try.ntmps78
    go_wp2_with (first
      | ((with_reducible refine (times_to r0 r1 r0 r1 es et _).mono ?_); rintro e wa ⟨rfl, ha⟩)
      | ((with_reducible refine (times_to s0 s1 r0 r1 eo eu _).mono ?_); rintro e wb ⟨rfl, hb⟩; have b1 := kept_lt hb; have b2 := kept_cell hb 1 rfl)
      | ((with_reducible refine (times_to t0 t1 r0 r1 em el _).mono ?_); rintro e wc ⟨rfl, hd⟩; have c1 := kept_lt hd; have c2 := kept_cell hd 0 rfl; have c3 := kept_cell hd 1 rfl))
    all_goals
      go_ret
      refine ⟨ret_bool ?_, (below_step (below_step ha hb) hd).alloc (below_step (below_step ha hb) hd).size _⟩
      have hcc := HC.out
      clear HC
      try simp only [u64_mod] at *
      first
        | (rw [decide_eq_decide]; omega)
        | (symm; rw [decide_eq_false_iff_not]; omega)
        | (symm; rw [decide_eq_true_iff]; omega)
end Go.Proofs.Ytnnpklnhdfpnjaa.Root
