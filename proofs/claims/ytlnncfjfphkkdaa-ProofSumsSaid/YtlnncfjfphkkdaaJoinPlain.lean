/-
  The sums of two rows that have nothing in common: plain facts.
-/
import Derived.Test.YtlnncfjfphkkdaaM7
import Derived.Test.YtlnncfjfphkkdaaFoldPlain
set_option linter.unusedSimpArgs false
set_option linter.unusedVariables false
namespace Go.Proofs.Ytlnncfjfphkkdaa.LedPlain
set_option linter.unusedVariables false
open Go.Proofs.Ytlnncfjfphkkdaa.SpanPlain
open Go.Proofs.Ytlnncfjfphkkdaa.AckPlain (K)

theorem xr_is (x y : Int) : xr x y = FoldPlain.xr x y := rfl
def W64' (x : Int) : Prop := 0 ≤ x ∧ x ≤ 18446744073709551615
theorem xr_w {x y : Int} (hx : W64' x) (hy : W64' y) : W64' (xr x y) := FoldPlain.xr_bd hx.1 hx.2 hy.1 hy.2
theorem xr_lo {x y n : Int} (hx : W64' x) (hy : W64' y) (hn : W64' n) : xr (xr x y) n = xr (xr x n) y := by
  simp only [xr_is]
  rw [FoldPlain.xr_assoc hx.1 hx.2 hy.1 hy.2 hn.1 hn.2, FoldPlain.xr_comm hy.1 hy.2 hn.1 hn.2, ← FoldPlain.xr_assoc hx.1 hx.2 hn.1 hn.2 hy.1 hy.2]
theorem xr_hi {x y n : Int} (hx : W64' x) (hy : W64' y) (hn : W64' n) : xr (xr x y) n = xr x (xr y n) := by
  simp only [xr_is]
  rw [FoldPlain.xr_assoc hx.1 hx.2 hy.1 hy.2 hn.1 hn.2]
theorem sumT_in {c m : List Sp} {s : Sn} {t : List Sn} (h : has c s.pn = true) (h4 : s.state ≠ 4) (x : Int) (o : Bool) : sumT c m (s :: t) x o = sumT c m t (xr x s.nonce) (if (s.coin && !has m s.pn) = true then !o else o) := by
  rw [sumT, if_neg (by rw [h]; decide), if_neg h4]
theorem sumT_out {c m : List Sp} {s : Sn} {t : List Sn} (h : has c s.pn = false) (x : Int) (o : Bool) : sumT c m (s :: t) x o = sumT c m t x o := by
  rw [sumT, if_pos h]
theorem sumT_join {c l h m : List Sp} {at0 : Int} (hl : ∀ n, has l n = (has c n && decide (n < at0))) (hh : ∀ n, has h n = (has c n && decide (at0 ≤ n))) : ∀ (t : List Sn) (x1 x2 : Int) (o1 o2 : Bool), W64' x1 → W64' x2 → (∀ s ∈ t, W64' s.nonce) → (∀ s ∈ t, has c s.pn = true → s.state ≠ 4) →
    (sumT c m t (xr x1 x2) (o1 != o2)).1 = xr (sumT l m t x1 o1).1 (sumT h m t x2 o2).1 ∧ (sumT c m t (xr x1 x2) (o1 != o2)).2.1 = ((sumT l m t x1 o1).2.1 != (sumT h m t x2 o2).2.1)
  | [], x1, x2, o1, o2, _, _, _, _ => ⟨rfl, rfl⟩
  | s :: t, x1, x2, o1, o2, h1, h2, hn, hs => by
    have hn' : ∀ y ∈ t, W64' y.nonce := fun y hy => hn y (by simp [hy])
    have hs' : ∀ y ∈ t, has c y.pn = true → y.state ≠ 4 := fun y hy => hs y (by simp [hy])
    have w := hn s (by simp)
    by_cases hc : has c s.pn = true
    · have h4 := hs s (by simp) hc
      rw [sumT_in hc h4]
      by_cases ha : s.pn < at0
      · have e1 : has l s.pn = true := by rw [hl, hc, decide_eq_true ha]; rfl
        have e2 : has h s.pn = false := by rw [hh, decide_eq_false (by omega), Bool.and_false]
        rw [sumT_in e1 h4, sumT_out e2, xr_lo h1 h2 w]
        have eo : (if (s.coin && !has m s.pn) = true then !(o1 != o2) else (o1 != o2)) = ((if (s.coin && !has m s.pn) = true then !o1 else o1) != o2) := by
          cases (s.coin && !has m s.pn) <;> cases o1 <;> cases o2 <;> rfl
        rw [eo]
        exact sumT_join hl hh t _ _ _ _ (xr_w h1 w) h2 hn' hs'
      · have e1 : has l s.pn = false := by rw [hl, decide_eq_false ha, Bool.and_false]
        have e2 : has h s.pn = true := by rw [hh, hc, decide_eq_true (by omega)]; rfl
        rw [sumT_out e1, sumT_in e2 h4, xr_hi h1 h2 w]
        have eo : (if (s.coin && !has m s.pn) = true then !(o1 != o2) else (o1 != o2)) = (o1 != (if (s.coin && !has m s.pn) = true then !o2 else o2)) := by
          cases (s.coin && !has m s.pn) <;> cases o1 <;> cases o2 <;> rfl
        rw [eo]
        exact sumT_join hl hh t _ _ _ _ h1 (xr_w h2 w) hn' hs'
    · have hc' : has c s.pn = false := by simpa using hc
      rw [sumT_out hc', sumT_out (by rw [hl, hc', Bool.false_and]), sumT_out (by rw [hh, hc', Bool.false_and])]
      exact sumT_join hl hh t _ _ _ _ h1 h2 hn' hs'
/-- Of claims of kept numbers each part is one. -/
theorem Fine.sub {g : Lg} {c m l : List Sp} (h : Fine g c m) (hl : good l = true) (hi : ∀ n, has l n = true → has c n = true) : Fine g l m :=
  ⟨hl, h.gm, fun x hx => h.lin x (hi x hx), fun s hs hx => h.live s hs (hi _ hx)⟩
theorem Fine.join {g : Lg} (hok : Ok g) {c m l h : List Sp} {at0 : Int} (hf : Fine g c m) (hgl : good l = true) (hgh : good h = true) (hl : ∀ n, has l n = (has c n && decide (n < at0))) (hh : ∀ n, has h n = (has c n && decide (at0 ≤ n))) :
    (sumG g c m).1 = xr (sumG g l m).1 (sumG g h m).1 ∧ (sumG g c m).2.1 = ((sumG g l m).2.1 != (sumG g h m).2.1) ∧ (sumG g c m).2.2 = true ∧ (sumG g l m).2.2 = true ∧ (sumG g h m).2.2 = true := by
  have f1 := hf.sub hgl fun n hn => by rw [hl] at hn; exact (Bool.and_eq_true_iff.1 hn).1
  have f2 := hf.sub hgh fun n hn => by rw [hh] at hn; exact (Bool.and_eq_true_iff.1 hn).1
  have hw : ∀ s ∈ allS g, W64' s.nonce := fun s hs => by
    obtain ⟨i, i1, i2, _, e2, hw⟩ := all_get hok hs
    unfold Words at hw
    unfold W64'
    omega
  have hj := sumT_join (m := m) hl hh (allS g) 0 0 false false ⟨by decide, by decide⟩ ⟨by decide, by decide⟩ hw hf.live
  have e0 : xr 0 0 = 0 := by decide
  rw [e0] at hj
  refine ⟨?_, ?_, hf.is, f1.is, f2.is⟩
  · rw [hf.sum, f1.sum, f2.sum]
    exact hj.1
  · rw [hf.sum, f1.sum, f2.sum]
    exact hj.2
theorem from_is (c : List Sp) (at0 n : Int) : has (fromS c at0) n = (has c n && decide (at0 ≤ n)) := from_has c at0 n
/-- What is below the first one of what is from a number on, is below that number. -/
theorem cut_is {c : List Sp} (hc : good c = true) {at0 : Int} (hl : 0 < (fromS c at0).length) (n : Int) : has (cutS c (((fromS c at0).getD 0 (0, 0)).1, 4611686018427387903)) n = (has c n && decide (n < at0)) := by
  have hg : good (fromS c at0) = true := from_good hc
  have h0 := good_get hg hl
  have hfirst : has (fromS c at0) ((fromS c at0).getD 0 (0, 0)).1 = true := by
    cases e : fromS c at0 with
    | nil => rw [e] at hl; cases hl
    | cons s t =>
      rw [e] at h0
      simp only [List.getD_cons_zero] at h0 ⊢
      exact has_iff.2 (.inl ⟨Int.le_refl _, h0.2.1⟩)
  have h1 : at0 ≤ ((fromS c at0).getD 0 (0, 0)).1 := by
    rw [from_is] at hfirst
    simpa using (Bool.and_eq_true_iff.1 hfirst).2
  have h2 : ∀ x, has (fromS c at0) x = true → ((fromS c at0).getD 0 (0, 0)).1 ≤ x := fun x hx => by
    cases e : fromS c at0 with
    | nil => rw [e] at hl; cases hl
    | cons s t =>
      rw [e] at hx hg
      simp only [List.getD_cons_zero]
      obtain ⟨g1, g2, g3, g4⟩ := goodFrom_cons.1 hg
      rcases has_iff.1 hx with h | h
      · exact h.1
      · have := (has_le g4 h).1
        omega
  rw [cut_has c (by simp only; omega) n]
  simp only
  cases hn : has c n with
  | false => rfl
  | true =>
    have h3 := (has_le hc hn).2
    unfold M at h3
    rw [Bool.true_and, Bool.true_and]
    by_cases h4 : n < at0
    · rw [decide_eq_true h4, decide_eq_false (by omega)]
      rfl
    · have h5 := h2 n (by rw [from_is, hn, decide_eq_true (by omega)]; rfl)
      rw [decide_eq_false h4, decide_eq_true h5, decide_eq_true (by omega)]
      rfl
theorem whole_is {c : List Sp} {at0 : Int} (hl : fromS c at0 = []) (n : Int) : has c n = (has c n && decide (n < at0)) := by
  cases hn : has c n with
  | false => rfl
  | true =>
    by_cases h4 : n < at0
    · rw [decide_eq_true h4]
      rfl
    · have := from_is c at0 n
      rw [hl, has_nil, hn, decide_eq_true (by omega)] at this
      cases this
end Go.Proofs.Ytlnncfjfphkkdaa.LedPlain
