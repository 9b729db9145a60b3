/-
  A ledger whose numbers are skipped or acknowledged one by one, up to its greatest. Plain.
-/
import Derived.Test.YtagmkggkkacpdaaLedPlain
namespace Go.Proofs.Ytagmkggkkacpdaa.LedPlain
set_option linter.unusedVariables false

def oneS : Sn := { Z8 with len := 1 }
/-- Behind i numbers: some skipped, the others sent and acknowledged. -/
def endG (m : Int) (f : Nat → Bool) : Nat → Lg
  | 0 => newG 8 m
  | i + 1 => if f i then skipG (endG m f i) else settleG (sendG (endG m f i) oneS) i 2
theorem least_none {g : Lg} (h : ∀ i, i < g.l.length → (atN g i).state ≠ 1) : leastN g = g.l.length := by
  have h1 := least_le g
  have h2 := low_le g
  rcases Nat.lt_or_ge (leastN g) g.l.length with hlt | hge
  · exfalso
    have h3 := first_at (lowN g) (g.l.drop (lowN g)) (by rw [List.length_drop]; unfold leastN at hlt; omega)
    rw [drop_getD] at h3
    have h4 := first_ge (lowN g) (g.l.drop (lowN g))
    rw [show lowN g + (firstF (lowN g) (g.l.drop (lowN g)) - lowN g) = leastN g by unfold leastN; omega] at h3
    exact h _ hlt h3
  · omega
/-- What holds of it. -/
structure EndOk (m : Int) (g : Lg) (i : Nat) : Prop where
  ok : Ok g
  ring : g.ring = 8
  lim : g.limit = m
  len : g.l.length = i
  none : ∀ j, j < g.l.length → (atN g j).state ≠ 1
theorem EndOk.give {m : Int} {g : Lg} {i : Nat} (h : EndOk m g i) : giveE g = if (i : Int) > m then 8 else 0 := by
  unfold giveE
  rw [h.len, h.lim]
  split
  · rfl
  · have := least_none h.none
    rw [if_neg]
    unfold roomI
    rw [this, h.ring]
    omega
theorem one_ok : ¬ badS oneS := by unfold badS oneS Z8; decide
theorem EndOk.send {m : Int} {g : Lg} {i : Nat} (h : EndOk m g i) (hi : (i : Int) ≤ m) : sendN g oneS = i ∧ sendE g oneS = 0 ∧ settleB (sendG g oneS) i 2 = true ∧ EndOk m (settleG (sendG g oneS) i 2) (i + 1) ∧ (sendG g oneS).l.length = i + 1 := by
  have he : giveE g = 0 := by rw [h.give, if_neg (by omega)]
  have eg : sendG g oneS = { g with l := g.l ++ [{ oneS with state := 1, used := false, pn := g.l.length }] } := by
    unfold sendG giveG
    rw [if_neg one_ok, if_pos he]
  have hl : (sendG g oneS).l.length = i + 1 := by rw [eg]; simp [h.len]
  have hat : atN (sendG g oneS) i = { oneS with state := 1, used := false, pn := g.l.length } := by
    rw [eg, ← h.len]
    exact at_snoc
  have hk : keptN (sendG g oneS) i := by
    unfold keptN lowN
    rw [hl, eg]
    simp only
    rw [h.ring]
    omega
  have hb : settleB (sendG g oneS) i 2 = true := decide_eq_true ⟨hk, .inl ⟨rfl, .inl (by rw [Int.toNat_natCast, hat])⟩⟩
  have es : settleG (sendG g oneS) i 2 = { sendG g oneS with l := (sendG g oneS).l.set i { atN (sendG g oneS) i with state := 2 } } := by
    unfold settleG
    rw [if_pos hb, Int.toNat_natCast]
  have hw : Words oneS := by unfold Words oneS Z8; decide
  refine ⟨by unfold sendN giveN; rw [if_neg one_ok, if_pos he, h.len], by unfold sendE; rw [if_neg one_ok, he], hb, ⟨ok_settle (ok_send h.ok hw) i 2, ?_, ?_, ?_, ?_⟩, hl⟩
  · rw [es, eg]
    exact h.ring
  · rw [es, eg]
    exact h.lim
  · rw [settle_len]
    exact hl
  · intro j hj
    rw [settle_len, hl] at hj
    rw [es]
    by_cases e : i = j
    · subst e
      rw [at_set (by omega)]
      simp
    · rw [at_set_ne e, eg, at_snoc_lt (by rw [h.len]; omega)]
      exact h.none j (by rw [h.len]; omega)
theorem EndOk.skip {m : Int} {g : Lg} {i : Nat} (h : EndOk m g i) (hi : (i : Int) ≤ m) : giveN g = i ∧ giveE g = 0 ∧ EndOk m (skipG g) (i + 1) := by
  have he : giveE g = 0 := by rw [h.give, if_neg (by omega)]
  have eg : skipG g = { g with l := g.l ++ [{ Z8 with state := 4, pn := g.l.length }] } := by
    unfold skipG giveG
    rw [if_pos he]
  refine ⟨by unfold giveN; rw [if_pos he, h.len], he, ⟨ok_skip h.ok, ?_, ?_, ?_, ?_⟩⟩
  · rw [eg]
    exact h.ring
  · rw [eg]
    exact h.lim
  · rw [eg]
    simp [h.len]
  · intro j hj
    rw [eg] at hj ⊢
    by_cases e : j = g.l.length
    · subst e
      rw [at_snoc]
      simp
    · simp only [List.length_append, List.length_singleton] at hj
      rw [at_snoc_lt (by omega)]
      exact h.none j (by omega)
theorem end_ok {m : Int} (m0 : 0 ≤ m) (m1 : m ≤ 4611686018427387903) (f : Nat → Bool) : ∀ i : Nat, (i : Int) ≤ m + 1 → EndOk m (endG m f i) i
  | 0, _ => ⟨ok_new 8 m m0, (show max (4 : Int) (min 8 256) = 8 by decide), by unfold endG newG; simp only; omega, rfl, fun j hj => by simp [endG, newG] at hj⟩
  | i + 1, hi => by
    have ih := end_ok m0 m1 f i (by omega)
    unfold endG
    split
    · exact (ih.skip (by omega)).2.2
    · exact (ih.send (by omega)).2.2.2.1
/-- Behind the greatest number. -/
theorem EndOk.over {m : Int} {g : Lg} {i : Nat} (h : EndOk m g i) (hi : m < i) : sendN g oneS = 0 ∧ sendE g oneS = 8 ∧ sendG g oneS = g ∧ giveN g = 0 ∧ giveE g = 8 ∧ skipG g = g ∧ sendN g Z8 = 0 ∧ sendE g Z8 = 1 ∧ sendG g Z8 = g := by
  have he : giveE g = 8 := by rw [h.give, if_pos (by omega)]
  have hb : badS Z8 := by unfold badS Z8; decide
  refine ⟨?_, ?_, ?_, ?_, he, ?_, ?_, ?_, ?_⟩
  · unfold sendN giveN
    rw [if_neg one_ok, he]
    rfl
  · unfold sendE
    rw [if_neg one_ok, he]
  · unfold sendG giveG
    rw [if_neg one_ok]
    rw [he]
    rfl
  · unfold giveN
    rw [he]
    rfl
  · unfold skipG giveG
    rw [he]
    rfl
  · unfold sendN
    rw [if_pos hb]
  · unfold sendE
    rw [if_pos hb]
  · unfold sendG
    rw [if_pos hb]
end Go.Proofs.Ytagmkggkkacpdaa.LedPlain
