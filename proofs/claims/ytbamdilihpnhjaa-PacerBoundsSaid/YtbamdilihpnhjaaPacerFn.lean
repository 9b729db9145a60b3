/-
  Next as the program reckons it (from what is missing at the time of the bucket) is Next as the document tells it. Plain.
-/
import Derived.Test.YtbamdilihpnhjaaPacerMore
set_option linter.unusedSimpArgs false
set_option linter.unusedVariables false
namespace Go.Proofs.Ytbamdilihpnhjaa.PacerPlain
set_option linter.unusedVariables false
open Go.Proofs.Ytbamdilihpnhjaa.RenoPlain

def waitP (m r : Int) : Int := if m = 0 then 0 else Wide.up m 1 r
theorem up_gen {x r : Int} (x0 : 0 < x) (x1 : x ≤ 18446744073709551615) (r0 : 0 < r) : x ≤ r * Wide.up x 1 r ∧ r * (Wide.up x 1 r - 1) < x ∧ 1 ≤ Wide.up x 1 r ∧ Wide.up x 1 r ≤ x := by
  have e := Int.mul_ediv_add_emod x r
  have m0 := Int.emod_nonneg x (show r ≠ 0 by omega)
  have m1 := Int.emod_lt_of_pos x r0
  have d0 := Int.ediv_nonneg (show 0 ≤ x by omega) (show 0 ≤ r by omega)
  have d1 : x / r ≤ x := Int.ediv_le_self _ (by omega)
  have d2 : 0 < x % r → x / r < x := fun h => by
    have h3 : x / r ≤ r * (x / r) := by
      have := Int.mul_le_mul_of_nonneg_right (show (1 : Int) ≤ r by omega) d0
      omega
    omega
  have hu : Wide.up x 1 r = if 0 < x % r then x / r + 1 else x / r := by
    unfold Wide.up
    rw [Int.mul_one, if_neg (by omega)]
    by_cases h : 0 < x % r
    · have := d2 h
      rw [if_pos h, if_pos ⟨h, by omega⟩]
    · rw [if_neg h, if_neg (fun c => h c.1)]
  rw [hu]
  have d3 : ¬ 0 < x % r → 1 ≤ x / r := fun h => by
    rcases Int.lt_or_le (x / r) 1 with h4 | h4
    · have : x / r = 0 := by omega
      rw [this, Int.mul_zero] at e
      omega
    · exact h4
  split
  · rename_i h
    have := d2 h
    rw [Int.mul_add, Int.mul_one, Int.add_sub_cancel]
    omega
  · rename_i h
    have := d3 h
    rw [Int.mul_sub, Int.mul_one]
    omega
theorem up_zero (x : Int) (h0 : 0 ≤ x) : Wide.up x 1 0 = 18446744073709551615 := by
  unfold Wide.up
  rw [Int.mul_one, if_pos (by omega)]
theorem wait_bd {m r : Int} (hm : U m) (hr : U r) : U (waitP m r) := by
  unfold waitP
  split
  · exact ⟨by decide, by decide⟩
  · rename_i h
    rcases Int.lt_or_le 0 r with h1 | h1
    · have := up_gen (x := m) (r := r) (by unfold U at hm; omega) hm.2 h1
      unfold U at *
      omega
    · have : r = 0 := by unfold U at hr; omega
      rw [this, up_zero m hm.1]
      exact ⟨by decide, by decide⟩
theorem next_prog {p : Pc} (hp : PFit p) {b n s : Int} (hb : U b) (hn : U n) (hs : U s) :
    nextP p b n s = if full b < full s then 18446744073709551615 else max n (Sat.add p.at_ (waitP (Sat.sub (full s) p.tok) p.rate)) := by
  obtain ⟨t, a, r⟩ := p
  obtain ⟨ht, ha, hr⟩ := hp
  have hF := full_bd hb.1
  have hN := full_bd hs.1
  unfold nextP takeB fillP
  rw [show Sat.mul s 1000000 = full s from rfl]
  simp only at ht ha hr ⊢
  generalize full b = F at *
  generalize full s = N at *
  unfold U at *
  have hS : Sat.sub n a = max a n - a := by unfold Sat.sub; split <;> omega
  rw [hS]
  have hd0 : 0 ≤ max a n - a := by omega
  have hmx : max a n = a + (max a n - a) := by omega
  have hdn : 0 < max a n - a → max a n = n := by omega
  have hna : n ≤ a + (max a n - a) := by omega
  have hat : a + (max a n - a) ≤ 18446744073709551615 := by omega
  generalize hX : max a n - a = d at *
  have hrd := Int.mul_nonneg hr.1 hd0
  by_cases c0 : F < N
  · rw [if_pos c0]
    have : ¬ N ≤ min F (Sat.add t (Sat.mul r d)) := by omega
    rw [decide_eq_false this, if_neg (by decide), if_pos (.inl c0)]
  · rw [if_neg c0]
    by_cases c1 : N ≤ min F (Sat.add t (Sat.mul r d))
    · rw [decide_eq_true c1, if_pos rfl]
      by_cases c2 : N ≤ t
      · have e : Sat.sub N t = 0 := by unfold Sat.sub; split <;> omega
        rw [e]
        unfold waitP
        rw [if_pos rfl]
        unfold Sat.add
        rw [if_pos (by omega)]
        omega
      · have e : Sat.sub N t = N - t := by unfold Sat.sub; rw [if_neg (by omega)]
        have r0 : 0 < r := by
          rcases Int.lt_or_le 0 r with h | h
          · exact h
          · have hz : r = 0 := by omega
            rw [hz, Sat.mul_zero_left] at c1
            unfold Sat.add at c1
            split at c1 <;> omega
        obtain ⟨u1, u2, u3, u4⟩ := up_gen (x := N - t) (r := r) (by omega) (by omega) r0
        rw [e]
        unfold waitP
        rw [if_neg (by omega)]
        generalize Wide.up (N - t) 1 r = u at *
        have hud : u ≤ d := by
          rcases Int.lt_or_le d u with h | h
          · exfalso
            have h1 : r * d ≤ r * (u - 1) := Int.mul_le_mul_of_nonneg_left (by omega) hr.1
            unfold Sat.add Sat.mul at c1
            generalize r * d = x at *
            generalize r * (u - 1) = y at *
            rw [if_pos (by omega), if_pos (by omega)] at c1
            omega
          · exact h
        unfold Sat.add
        rw [if_pos (by omega)]
        have := hdn (by omega)
        omega
    · rw [decide_eq_false c1, if_neg (by decide)]
      have hadd : Sat.add t (Sat.mul r d) = t + r * d ∧ t + r * d < N := by
        unfold Sat.add Sat.mul at *
        by_cases g1 : r * d ≤ 18446744073709551615
        · rw [if_pos g1] at c1 ⊢
          by_cases g2 : t + r * d ≤ 18446744073709551615
          · rw [if_pos g2] at c1 ⊢
            exact ⟨rfl, by omega⟩
          · rw [if_neg g2] at c1
            omega
        · rw [if_neg g1] at c1
          split at c1 <;> omega
      rw [hadd.1]
      have hq : min F (t + r * d) = t + r * d := by omega
      rw [hq]
      have e : Sat.sub N t = N - t := by unfold Sat.sub; rw [if_neg (by omega)]
      have hw : waitP (N - t) r = Wide.up (N - t) 1 r := by unfold waitP; rw [if_neg (by omega)]
      rw [e, hw]
      by_cases c3 : r = 0
      · rw [if_pos (.inr c3), c3, up_zero _ (by omega)]
        unfold Sat.add
        split <;> omega
      · rw [if_neg (by omega)]
        have r0 : 0 < r := by omega
        obtain ⟨u1, u2, u3, u4⟩ := up_gen (x := N - t) (r := r) (by omega) (by omega) r0
        obtain ⟨v1, v2, v3, v4⟩ := up_gen (x := N - (t + r * d)) (r := r) (by omega) (by omega) r0
        generalize Wide.up (N - t) 1 r = u at *
        generalize Wide.up (N - (t + r * d)) 1 r = v at *
        have m1 : r * (v + d) = r * v + r * d := Int.mul_add ..
        have m2 : r * (v - 1 + d) = r * (v - 1) + r * d := Int.mul_add ..
        have huv : u = v + d := by
          rcases Int.lt_trichotomy u (v + d) with h | h | h
          · have h1 : r * u ≤ r * (v - 1 + d) := Int.mul_le_mul_of_nonneg_left (by omega) hr.1
            generalize r * u = x at *
            generalize r * (v - 1 + d) = y at *
            generalize r * (v - 1) = z at *
            generalize r * d = k at *
            omega
          · exact h
          · have h1 : r * (v + d) ≤ r * (u - 1) := Int.mul_le_mul_of_nonneg_left (by omega) hr.1
            generalize r * (u - 1) = x at *
            generalize r * (v + d) = y at *
            generalize r * v = z at *
            generalize r * d = k at *
            omega
        rw [huv, hmx]
        unfold Sat.add
        split <;> split <;> omega
end Go.Proofs.Ytbamdilihpnhjaa.PacerPlain
