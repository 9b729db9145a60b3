/-
  What flies is kept, its bytes are what is in flight, and there is room for just so many more. Plain.
-/
import Derived.Test.YtagmkggkkacpdaaLedEnds
namespace Go.Proofs.Ytagmkggkkacpdaa.LedPlain
set_option linter.unusedVariables false

def cnt : List Sn → Nat
  | [] => 0
  | s :: t => (if s.state = 1 then 1 else 0) + cnt t
theorem fly_append : ∀ (l m : List Sn), fly (l ++ m) = fly l + fly m
  | [], m => by simp [fly]
  | s :: l, m => by
    rw [List.cons_append, fly, fly, fly_append l m]
    omega
theorem cnt_append : ∀ (l m : List Sn), cnt (l ++ m) = cnt l + cnt m
  | [], m => by simp [cnt]
  | s :: l, m => by
    rw [List.cons_append, cnt, cnt, cnt_append l m]
    omega
theorem take_snoc {l : List Sn} {k : Nat} (h : k < l.length) : l.take (k + 1) = l.take k ++ [l.getD k Z8] := by
  rw [List.take_add_one, show l[k]? = some (l.getD k Z8) by simp [List.getD, h]]
  rfl
theorem fly_take {l : List Sn} {k : Nat} (h : k < l.length) : fly (l.take (k + 1)) = fly (l.take k) + if (l.getD k Z8).state = 1 then (l.getD k Z8).len else 0 := by
  rw [take_snoc h, fly_append, fly, fly]
  omega
theorem cnt_take {l : List Sn} {k : Nat} (h : k < l.length) : cnt (l.take (k + 1)) = cnt (l.take k) + if (l.getD k Z8).state = 1 then 1 else 0 := by
  rw [take_snoc h, cnt_append, cnt, cnt]
  omega
theorem cnt_le : ∀ (l : List Sn), cnt l ≤ l.length
  | [] => Nat.le_refl _
  | s :: l => by
    have := cnt_le l
    rw [cnt, List.length_cons]
    split <;> omega
theorem fly_none : ∀ (l : List Sn), (∀ i, i < l.length → (l.getD i Z8).state ≠ 1) → fly l = 0
  | [], _ => rfl
  | s :: l, h => by
    rw [fly, if_neg (by simpa using h 0 (by simp)), fly_none l fun i hi => by simpa using h (i + 1) (by simpa using hi)]
    rfl
theorem cnt_none {l : List Sn} (h : cnt l = 0) : ∀ i, i < l.length → (l.getD i Z8).state ≠ 1 := by
  induction l with
  | nil => intro i hi; simp at hi
  | cons s l ih =>
    rw [cnt] at h
    intro i hi
    cases i with
    | zero =>
      intro e
      rw [if_pos (by simpa using e)] at h
      omega
    | succ i => simpa using ih (by omega) i (by simpa using hi)
theorem cnt_some {l : List Sn} (h : 0 < cnt l) : ∃ i, i < l.length ∧ (l.getD i Z8).state = 1 := by
  induction l with
  | nil => simp [cnt] at h
  | cons s l ih =>
    by_cases e : s.state = 1
    · exact ⟨0, by simp, by simpa using e⟩
    · rw [cnt, if_neg e] at h
      obtain ⟨i, hi, h1⟩ := ih (by omega)
      exact ⟨i + 1, by simpa using hi, by simpa using h1⟩
/-- What flies is kept: its bytes are those of all that flies. -/
theorem flight_all {g : Lg} (h : Ok g) : flight g = fly g.l := by
  have h1 : fly (g.l.take (lowN g)) = 0 := fly_none _ fun i hi e => by
    rw [List.length_take] at hi
    have h2 : ((g.l.take (lowN g)).getD i Z8) = atN g i := by
      unfold atN
      simp only [List.getD]
      rw [List.getElem?_take, if_pos (by omega)]
    rw [h2] at e
    have := (h.each i (by omega)).2.2.2.2.2.2 e
    omega
  have h2 := fly_append (g.l.take (lowN g)) (g.l.drop (lowN g))
  rw [List.take_append_drop, h1, Int.zero_add] at h2
  exact h2.symm
theorem least_is {g : Lg} (h : Ok g) {L : Nat} (hL : L < g.l.length) (h1 : (atN g L).state = 1) (h0 : ∀ j, j < L → (atN g j).state ≠ 1) : leastN g = L := by
  rcases Nat.lt_trichotomy (leastN g) L with hlt | he | hgt
  · exfalso
    have h3 := first_at (lowN g) (g.l.drop (lowN g)) (by have := low_le g; rw [List.length_drop]; unfold leastN at hlt; omega)
    rw [drop_getD] at h3
    have h4 := first_ge (lowN g) (g.l.drop (lowN g))
    rw [show lowN g + (firstF (lowN g) (g.l.drop (lowN g)) - lowN g) = leastN g by unfold leastN; omega] at h3
    exact h0 _ hlt h3
  · exact he
  · exact absurd h1 (least_pre h hgt)
theorem least_at {g : Lg} (h : leastN g < g.l.length) : (atN g (leastN g)).state = 1 := by
  have h3 := first_at (lowN g) (g.l.drop (lowN g)) (by have := low_le g; rw [List.length_drop]; unfold leastN at h; omega)
  rw [drop_getD] at h3
  have h4 := first_ge (lowN g) (g.l.drop (lowN g))
  rw [show lowN g + (firstF (lowN g) (g.l.drop (lowN g)) - lowN g) = leastN g by unfold leastN; omega] at h3
  exact h3
theorem all_at {g : Lg} (i : Nat) : (allS g).getD i Z8 = atN g (lowN g + i) := drop_getD _ _ _
theorem cnt_zero {g : Lg} (h : Ok g) (hc : cnt (allS g) = 0) : leastN g = g.l.length ∧ flight g = 0 ∧ roomI g = g.ring := by
  have hn := cnt_none hc
  have hl := low_le g
  rw [kept_len] at hn
  have h1 : leastN g = g.l.length := least_none fun i hi e => by
    have h2 := (h.each i hi).2.2.2.2.2.2 e
    have := hn (i - lowN g) (by omega)
    rw [all_at, show lowN g + (i - lowN g) = i by omega] at this
    exact this e
  refine ⟨h1, ?_, ?_⟩
  · exact fly_none _ fun i hi => hn i (by rw [List.length_drop] at hi; exact hi)
  · unfold roomI
    rw [h1]
    omega
theorem cnt_pos {g : Lg} (h : Ok g) (hc : 0 < cnt (allS g)) : leastN g < g.l.length := by
  obtain ⟨i, hi, h1⟩ := cnt_some hc
  rw [kept_len] at hi
  rw [all_at] at h1
  rcases Nat.lt_or_ge (leastN g) g.l.length with hlt | hge
  · exact hlt
  · exact absurd h1 (least_pre h (by omega))
/-- Behind i more, where something flies. -/
structure More (g : Lg) (i : Nat) (g' : Lg) : Prop where
  ok : Ok g'
  ring : g'.ring = g.ring
  lim : g'.limit = g.limit
  len : g'.l.length = g.l.length + i
  least : leastN g' = leastN g
  flight : flight g' = flight g + i
theorem More.start {g : Lg} (h : Ok g) : More g 0 g := ⟨h, rfl, rfl, rfl, rfl, (Int.add_zero _).symm⟩
theorem More.room {g g' : Lg} {i : Nat} (h : More g i g') : roomI g' = roomI g - i := by
  unfold roomI
  rw [h.ring, h.len, h.least]
  omega
theorem More.send {g g' : Lg} {i : Nat} (h : More g i g') (hL : leastN g < g.l.length) (hm : ((g.l.length + i : Nat) : Int) ≤ g.limit) (hi : (i : Int) < roomI g) : sendE g' oneS = 0 ∧ More g (i + 1) (sendG g' oneS) := by
  have he : giveE g' = 0 := by
    unfold giveE
    rw [if_neg (by rw [h.len, h.lim]; omega), if_neg (by rw [h.room]; omega)]
  have eg : sendG g' oneS = { g' with l := g'.l ++ [{ oneS with state := 1, used := false, pn := g'.l.length }] } := by
    unfold sendG giveG
    rw [if_neg one_ok, if_pos he]
  have hok : Ok (sendG g' oneS) := ok_send h.ok (by unfold Words oneS Z8; decide)
  have hlen : (sendG g' oneS).l.length = g'.l.length + 1 := by rw [eg]; simp
  refine ⟨by unfold sendE; rw [if_neg one_ok, he], hok, ?_, ?_, ?_, ?_, ?_⟩
  · rw [eg]
    exact h.ring
  · rw [eg]
    exact h.lim
  · rw [hlen, h.len]
    omega
  · have hl' : leastN g' < g'.l.length := by rw [h.least, h.len]; omega
    rw [← h.least]
    refine least_is hok (by omega) ?_ fun j hj => ?_
    · rw [eg, at_snoc_lt hl']
      exact least_at hl'
    · rw [eg, at_snoc_lt (by omega)]
      exact least_pre h.ok hj
  · rw [flight_all hok, eg]
    simp only
    rw [fly_append, ← flight_all h.ok, h.flight]
    simp [fly, oneS, Z8]
    omega
theorem More.full {g g' : Lg} {i : Nat} (h : More g i g') (hm : ((g.l.length + i : Nat) : Int) ≤ g.limit) (hi : (i : Int) = roomI g) : sendE g' oneS = 7 ∧ sendG g' oneS = g' := by
  have he : giveE g' = 7 := by
    unfold giveE
    rw [if_neg (by rw [h.len, h.lim]; omega), if_pos (by rw [h.room]; omega)]
  refine ⟨by unfold sendE; rw [if_neg one_ok, he], ?_⟩
  unfold sendG giveG
  rw [if_neg one_ok, he]
  rfl
theorem send_ring (g : Lg) (s : Sn) : (sendG g s).ring = g.ring ∧ (sendG g s).limit = g.limit := by
  unfold sendG giveG
  split
  · exact ⟨rfl, rfl⟩
  · split <;> exact ⟨rfl, rfl⟩
theorem skip_ring (g : Lg) : (skipG g).ring = g.ring ∧ (skipG g).limit = g.limit := by
  unfold skipG giveG
  split <;> exact ⟨rfl, rfl⟩
theorem use_ring (g : Lg) (pn : Int) : (useG g pn).ring = g.ring ∧ (useG g pn).limit = g.limit := by
  unfold useG
  split <;> exact ⟨rfl, rfl⟩
theorem settle_ring (g : Lg) (pn st : Int) : (settleG g pn st).ring = g.ring ∧ (settleG g pn st).limit = g.limit := by
  unfold settleG
  split <;> exact ⟨rfl, rfl⟩
end Go.Proofs.Ytagmkggkkacpdaa.LedPlain
