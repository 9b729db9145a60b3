/-
  When bytes may go: at the time that is told, and not a microsecond ahead. Plain.
-/
import Derived.Test.YtbamdilihpnhjaaPacerPlain
set_option linter.unusedSimpArgs false
set_option linter.unusedVariables false
namespace Go.Proofs.Ytbamdilihpnhjaa.PacerPlain
set_option linter.unusedVariables false
open Go.Proofs.Ytbamdilihpnhjaa.RenoPlain

theorem up_is {x r : Int} (x0 : 0 < x) (x1 : x ≤ 1000000000000) (r0 : 0 < r) : x ≤ r * Wide.up x 1 r ∧ r * (Wide.up x 1 r - 1) < x ∧ 1 ≤ Wide.up x 1 r ∧ Wide.up x 1 r ≤ x := by
  have e := Int.mul_ediv_add_emod x r
  have m0 := Int.emod_nonneg x (show r ≠ 0 by omega)
  have m1 := Int.emod_lt_of_pos x r0
  have d0 := Int.ediv_nonneg (show 0 ≤ x by omega) (show 0 ≤ r by omega)
  have d1 : x / r ≤ x := Int.ediv_le_self _ (by omega)
  have hu : Wide.up x 1 r = if 0 < x % r then x / r + 1 else x / r := by
    unfold Wide.up
    rw [Int.mul_one, if_neg (by omega)]
    by_cases h : 0 < x % r
    · rw [if_pos h, if_pos ⟨h, by omega⟩]
    · rw [if_neg h, if_neg (fun c => h c.1)]
  rw [hu]
  have d2 : 0 < x % r → x / r < x := fun h => by
    have h3 : x / r ≤ r * (x / r) := by
      have := Int.mul_le_mul_of_nonneg_right (show (1 : Int) ≤ r by omega) d0
      omega
    omega
  have d3 : ¬ 0 < x % r → 1 ≤ x / r := fun h => by
    rcases Int.lt_or_le (x / r) 1 with h4 | h4
    · have : x / r = 0 := by omega
      rw [this, Int.mul_zero] at e
      omega
    · exact h4
  split
  · rename_i h
    have := d2 h
    rw [Int.mul_add, Int.mul_one, Int.add_sub_cancel]
    omega
  · rename_i h
    have := d3 h
    rw [Int.mul_sub, Int.mul_one]
    omega
theorem fill_tok (p : Pc) (b m : Int) : (fillP p b m).tok = min (full b) (Sat.add p.tok (Sat.mul p.rate (Sat.sub m p.at_))) := rfl
theorem next_is {t a r b now s : Int} (t0 : 0 ≤ t) (t1 : t ≤ 4294967295) (a0 : 0 ≤ a) (a1 : a ≤ 4294967295) (r0 : 0 ≤ r) (r1 : r ≤ 4294967295) (b0 : 1 ≤ b) (b1 : b ≤ 65536) (n0 : 0 ≤ now) (n1 : now ≤ 4294967295) (s0 : 0 ≤ s) (s1 : s ≤ 65535) :
    (nextP ⟨t, a, r⟩ b now s = 18446744073709551615 ∧ takeB ⟨t, a, r⟩ b 4611686018427387904 s = false) ∨
    (nextP ⟨t, a, r⟩ b now s ≤ 1000000000000 ∧ takeB ⟨t, a, r⟩ b (nextP ⟨t, a, r⟩ b now s) s = true ∧ now ≤ nextP ⟨t, a, r⟩ b now s ∧ a ≤ nextP ⟨t, a, r⟩ b now s ∧ (max now a < nextP ⟨t, a, r⟩ b now s → takeB ⟨t, a, r⟩ b (nextP ⟨t, a, r⟩ b now s - 1) s = false)) := by
  have hF : full b = b * 1000000 := by unfold full; exact Sat.mul_fits (by omega)
  have hN : Sat.mul s 1000000 = s * 1000000 := Sat.mul_fits (by omega)
  have hT : ∀ m, takeB ⟨t, a, r⟩ b m s = decide (s * 1000000 ≤ min (b * 1000000) (Sat.add t (Sat.mul r (Sat.sub m a)))) := fun m => by
    unfold takeB
    rw [hN, fill_tok, hF]
  have hA : (fillP ⟨t, a, r⟩ b now).at_ = max a now := rfl
  have hQ : (fillP ⟨t, a, r⟩ b now).tok = min (b * 1000000) (Sat.add t (Sat.mul r (Sat.sub now a))) := by rw [fill_tok, hF]
  have hS : Sat.sub now a = max a now - a := by unfold Sat.sub; split <;> omega
  have hx0 : 0 ≤ max a now - a := by omega
  have hrx := Int.mul_nonneg r0 hx0
  by_cases c1 : s * 1000000 ≤ min (b * 1000000) (Sat.add t (Sat.mul r (Sat.sub now a)))
  · have e : nextP ⟨t, a, r⟩ b now s = max a now := by
      unfold nextP
      rw [hT, decide_eq_true c1, if_pos rfl, hA]
    rw [e]
    refine .inr ⟨by omega, ?_, by omega, by omega, fun h => by omega⟩
    rw [hT]
    have e2 : Sat.sub (max a now) a = Sat.sub now a := by rw [hS]; unfold Sat.sub; rw [if_neg (by omega)]
    rw [e2, decide_eq_true c1]
  · by_cases c2 : b * 1000000 < s * 1000000 ∨ r = 0
    · left
      refine ⟨?_, ?_⟩
      · unfold nextP
        rw [hT, decide_eq_false c1, if_neg (by decide), hF, hN, if_pos c2]
      · rw [hT]
        refine decide_eq_false ?_
        rcases c2 with c2 | c2
        · omega
        · subst c2
          have z : ∀ y, Sat.mul 0 y = 0 := fun y => Sat.mul_zero_left y
          rw [z] at c1 ⊢
          exact c1
    · right
      have hr0 : 0 < r := by omega
      have hns : s * 1000000 ≤ b * 1000000 := by omega
      rw [hS] at c1 hQ
      generalize hX : max a now - a = x at *
      have hadd : Sat.add t (Sat.mul r x) = t + r * x ∧ t + r * x < s * 1000000 := by
        unfold Sat.add Sat.mul at *
        by_cases g1 : r * x ≤ 18446744073709551615
        · rw [if_pos g1] at c1 ⊢
          by_cases g2 : t + r * x ≤ 18446744073709551615
          · rw [if_pos g2] at c1 ⊢
            exact ⟨rfl, by omega⟩
          · rw [if_neg g2] at c1
            omega
        · rw [if_neg g1] at c1
          rw [if_neg g1]
          split at c1 <;> omega
      have hq : (fillP ⟨t, a, r⟩ b now).tok = t + r * x := by rw [hQ, hadd.1]; omega
      obtain ⟨u1, u2, u3, u4⟩ := up_is (x := s * 1000000 - (t + r * x)) (r := r) (by omega) (by omega) hr0
      have e : nextP ⟨t, a, r⟩ b now s = max a now + Wide.up (s * 1000000 - (t + r * x)) 1 r := by
        unfold nextP
        rw [hT, hS, decide_eq_false c1, if_neg (by decide), hF, hN, if_neg c2, hA, hq]
        show Sat.add (max a now) (Wide.up (s * 1000000 - (t + r * x)) 1 r) = _
        have h0 := hadd.1
        unfold Sat.add
        rw [if_pos (by omega)]
      rw [e]
      generalize Wide.up (s * 1000000 - (t + r * x)) 1 r = d at *
      have k1 : Sat.sub (max a now + d) a = x + d := by unfold Sat.sub; rw [if_neg (by omega)]; omega
      have k2 : Sat.sub (max a now + d - 1) a = x + (d - 1) := by unfold Sat.sub; rw [if_neg (by omega)]; omega
      have m1 : r * (x + d) = r * x + r * d := Int.mul_add ..
      have m2 : r * (x + (d - 1)) = r * x + r * (d - 1) := Int.mul_add ..
      refine ⟨by omega, ?_, by omega, by omega, fun _ => ?_⟩
      · rw [hT, k1]
        refine decide_eq_true ?_
        unfold Sat.add Sat.mul
        rw [m1]
        generalize r * x = rx at *
        generalize r * d = rd at *
        split <;> split <;> omega
      · rw [hT, k2]
        refine decide_eq_false ?_
        have m3 := Int.mul_nonneg r0 (show 0 ≤ d - 1 by omega)
        unfold Sat.add Sat.mul
        rw [m2]
        generalize r * x = rx at *
        generalize r * (d - 1) = rd at *
        rw [if_pos (show rx + rd ≤ 18446744073709551615 by omega), if_pos (show t + (rx + rd) ≤ 18446744073709551615 by omega)]
        omega
end Go.Proofs.Ytbamdilihpnhjaa.PacerPlain
