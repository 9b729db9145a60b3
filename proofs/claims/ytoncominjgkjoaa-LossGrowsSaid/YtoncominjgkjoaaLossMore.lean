/-
  What holds of the lost and of the next time, of a ledger made of deeds. Plain.
-/
import Derived.Test.YtoncominjgkjoaaLedMake
import Derived.Test.YtoncominjgkjoaaLossPlain
set_option linter.unusedSimpArgs false
set_option linter.unusedVariables false
namespace Go.Proofs.Ytoncominjgkjoaa.LossPlain
set_option linter.unusedVariables false
open Go.Proofs.Ytoncominjgkjoaa.Base Go.Proofs.Ytoncominjgkjoaa.LedPlain Go.Proofs.Ytoncominjgkjoaa.Led

/-- Every time lies ahead of 5000. -/
def Early (g : Lg) : Prop := ∀ s ∈ g.l, s.time < 5000
theorem early_at {g : Lg} (h : Early g) (i : Nat) : (atN g i).time < 5000 := by
  unfold atN
  by_cases hi : i < g.l.length
  · rw [show g.l.getD i Z8 = g.l[i] by simp [List.getD, hi]]
    exact h _ (List.getElem_mem hi)
  · rw [show g.l.getD i Z8 = Z8 by simp [List.getD, List.getElem?_eq_none (by omega : g.l.length ≤ i)]]
    decide
theorem early_give {g : Lg} (h : Early g) {s : Sn} (hs : s.time < 5000) : Early (giveG g s) := by
  unfold giveG
  split
  · intro x hx
    rcases List.mem_append.1 hx with hx | hx
    · exact h x hx
    · obtain rfl := List.mem_singleton.1 hx
      exact hs
  · exact h
theorem early_set {g : Lg} (h : Early g) (k : Nat) {s : Sn} (hs : s.time < 5000) : Early { g with l := g.l.set k s } := by
  intro x hx
  rcases List.mem_or_eq_of_mem_set hx with hx | rfl
  · exact h x hx
  · exact hs
theorem early_do {g : Lg} (h : Early g) (k A : Int) {B : Int} : Early (doG g false k A B) := by
  unfold doG
  split
  · unfold sendG
    split
    · exact h
    · refine early_give h ?_
      show (sOf false A B).time < 5000
      unfold sOf
      simp
      omega
  · split
    · exact early_give h (by decide)
    · split
      · unfold settleG
        split
        · exact early_set h _ (early_at h _)
        · exact h
      · split
        · unfold useG
          split
          · exact early_set h _ (early_at h _)
          · exact h
        · exact h
theorem early_fold : ∀ (l : List Dd) (g : Lg), Early g → Early (l.foldl deedG g)
  | [], g, h => h
  | d :: l, g, h => early_fold l _ (early_do h _ _)
theorem made_early (ring limit : Int) (l : List Dd) : Early (madeG ring limit l) := early_fold _ _ fun s hs => by simp [newG] at hs
/-- Times that may be. -/
def Ts (l : List Sn) : Prop := ∀ s ∈ l, 0 ≤ s.time ∧ s.time < 5000
theorem ts_all {g : Lg} (h : Ok g) (he : Early g) : Ts (allS g) := fun s hs => by
  unfold allS at hs
  have hm := List.mem_of_mem_drop hs
  refine ⟨?_, he s hm⟩
  obtain ⟨i, hi, rfl⟩ := List.mem_iff_getElem.1 hm
  have := (h.each i hi).2.1
  unfold atN at this
  rw [show g.l.getD i Z8 = g.l[i] by simp [List.getD, hi]] at this
  exact this.2.2.2.2.2.2.2.2.1
theorem gone_later {n m now later win : Int} (hn : n ≤ m) (h : now ≤ later) {s : Sn} (hg : goneB n now win s = true) : goneB m later win s = true := by
  unfold goneB at *
  simp only [Bool.or_eq_true, decide_eq_true_eq] at *
  unfold Sat.sub at *
  rcases hg with hg | hg
  · exact .inl (by omega)
  · right
    split at hg <;> split <;> omega
theorem lost_later {n m now later win : Int} (hn : n ≤ m) (h : now ≤ later) {s : Sn} (hg : lostB n now win s = true) : lostB m later win s = true := by
  unfold lostB at *
  rw [Bool.and_eq_true] at *
  refine ⟨?_, gone_later hn h hg.2⟩
  have := hg.1
  unfold seenB at *
  simp only [Bool.and_eq_true, decide_eq_true_eq] at *
  omega
theorem next_top {n now win : Int} (w0 : 0 ≤ win) (w1 : win ≤ 65535) : ∀ {l : List Sn}, Ts l → nextT n now win l = 18446744073709551615 → ∀ s ∈ l, seenB n s = true → goneB n now win s = true
  | s :: l, ht, h, x, hx, hs => by
    unfold nextT at h
    obtain ⟨h0, h1⟩ := ht s (by simp)
    split at h
    · rename_i hc
      exfalso
      unfold Sat.add at h
      split at h <;> omega
    · rename_i hc
      rcases List.mem_cons.1 hx with rfl | hx
      · cases hg : goneB n now win x with
        | true => rfl
        | false => exact absurd ⟨hs, hg⟩ hc
      · exact next_top w0 w1 (fun y hy => ht y (by simp [hy])) h x hx hs
theorem lost_congr {n now later win : Int} {l : List Sn} (h : ∀ s ∈ l, seenB n s = true → goneB n now win s = goneB n later win s) : lostL n now win l = lostL n later win l ∧ nextT n now win l = nextT n later win l := by
  induction l with
  | nil => exact ⟨rfl, rfl⟩
  | cons s l ih =>
    obtain ⟨i1, i2⟩ := ih fun x hx => h x (by simp [hx])
    have h0 := h s (by simp)
    unfold lostL at i1 ⊢
    rw [List.filter_cons, List.filter_cons]
    unfold nextT
    rw [i2]
    have e : lostB n now win s = lostB n later win s := by
      unfold lostB
      cases hs : seenB n s with
      | false => rfl
      | true => rw [h0 hs]
    rw [e]
    refine ⟨?_, ?_⟩
    · split
      · rw [List.map_cons, List.map_cons, i1]
      · exact i1
    · cases hs : seenB n s with
      | false => rfl
      | true => rw [h0 hs]
theorem times_top {n now win : Int} (w0 : 0 ≤ win) (w1 : win ≤ 65535) (n1 : now ≤ 65535) {l : List Sn} (ht : Ts l) (h : nextT n now win l = 18446744073709551615) :
    lostL n 18446744073709551615 win l = lostL n now win l ∧ nextT n 18446744073709551615 win l = 18446744073709551615 := by
  have := lost_congr (n := n) (now := now) (later := 18446744073709551615) (win := win) (l := l) fun s hs hx => by
    have h1 := next_top w0 w1 ht h s hs hx
    rw [h1, gone_later (Int.le_refl n) (by omega) h1]
  exact ⟨this.1.symm, by rw [← this.2, h]⟩
/-- Where there is a next time: it is one's, and none's before. -/
theorem next_who {n now win : Int} (w0 : 0 ≤ win) (w1 : win ≤ 65535) : ∀ {l : List Sn}, Ts l → nextT n now win l ≠ 18446744073709551615 → (∃ s ∈ l, seenB n s = true ∧ goneB n now win s = false ∧ nextT n now win l = s.time + win) ∧ ∀ s ∈ l, seenB n s = true → goneB n now win s = false → nextT n now win l ≤ s.time + win
  | [], _, h => absurd rfl h
  | s :: l, ht, h => by
    obtain ⟨h0, h1⟩ := ht s (by simp)
    have ht' : Ts l := fun y hy => ht y (by simp [hy])
    have hadd : Sat.add s.time win = s.time + win := by unfold Sat.add; rw [if_pos (by omega)]
    by_cases hc : seenB n s = true ∧ goneB n now win s = false
    · have e : nextT n now win (s :: l) = min (s.time + win) (nextT n now win l) := by rw [nextT, if_pos hc, hadd]
      rw [e]
      by_cases hT : nextT n now win l = 18446744073709551615
      · refine ⟨⟨s, by simp, hc.1, hc.2, by omega⟩, fun x hx h2 h3 => ?_⟩
        rcases List.mem_cons.1 hx with rfl | hx
        · omega
        · rw [next_top w0 w1 ht' hT x hx h2] at h3
          cases h3
      · obtain ⟨⟨y, hy, hy1, hy2, hy3⟩, hall⟩ := next_who w0 w1 ht' hT
        refine ⟨?_, fun x hx h2 h3 => ?_⟩
        · by_cases hle : s.time + win ≤ nextT n now win l
          · exact ⟨s, by simp, hc.1, hc.2, by omega⟩
          · exact ⟨y, by simp [hy], hy1, hy2, by omega⟩
        · rcases List.mem_cons.1 hx with rfl | hx
          · omega
          · have := hall x hx h2 h3
            omega
    · have e : nextT n now win (s :: l) = nextT n now win l := by rw [nextT, if_neg hc]
      rw [e] at h ⊢
      obtain ⟨⟨y, hy, hy1, hy2, hy3⟩, hall⟩ := next_who w0 w1 ht' h
      refine ⟨⟨y, by simp [hy], hy1, hy2, hy3⟩, fun x hx h2 h3 => ?_⟩
      rcases List.mem_cons.1 hx with rfl | hx
      · exact absurd ⟨h2, h3⟩ hc
      · exact hall x hx h2 h3
theorem not_gone {n now win : Int} {s : Sn} : goneB n now win s = false ↔ n - s.pn < 3 ∧ Sat.sub now s.time < win := by
  unfold goneB
  simp only [Bool.or_eq_false_iff, decide_eq_false_iff_not]
  omega
theorem filter_lt {α : Type} {p q : α → Bool} : ∀ {l : List α}, (∀ x, p x = true → q x = true) → (∃ x ∈ l, p x = false ∧ q x = true) → (l.filter p).length < (l.filter q).length
  | [], _, ⟨x, hx, _⟩ => by cases hx
  | a :: l, h, ⟨x, hx, h1, h2⟩ => by
    have le : ∀ l : List α, (l.filter p).length ≤ (l.filter q).length := fun l => by
      induction l with
      | nil => exact Nat.le_refl _
      | cons b l ih =>
        rw [List.filter_cons, List.filter_cons]
        cases hp : p b with
        | true => rw [h b hp]; simpa using ih
        | false => cases hq : q b <;> simp <;> omega
    rw [List.filter_cons, List.filter_cons]
    rcases List.mem_cons.1 hx with rfl | hx
    · rw [h1, h2]
      have := le l
      simp
      omega
    · have ih := filter_lt h ⟨x, hx, h1, h2⟩
      cases hp : p a with
      | true => rw [h a hp]; simpa using ih
      | false => cases hq : q a <;> simp <;> omega
theorem times_at {n now win : Int} (w0 : 0 ≤ win) (w1 : win ≤ 65535) (t0 : 0 ≤ now) (n1 : now ≤ 65535) {l : List Sn} (ht : Ts l) (h : nextT n now win l ≠ 18446744073709551615) :
    now < nextT n now win l ∧ nextT n now win l ≤ 70535 ∧ (lostL n now win l).length < (lostL n (nextT n now win l) win l).length ∧
      lostL n (nextT n now win l - 1) win l = lostL n now win l ∧ nextT n (nextT n now win l - 1) win l = nextT n now win l := by
  obtain ⟨⟨y, hy, hy1, hy2, hy3⟩, hall⟩ := next_who w0 w1 ht h
  obtain ⟨h0, h1⟩ := ht y hy
  have hg := not_gone.1 hy2
  have hlt : now < nextT n now win l := by
    rw [hy3]
    unfold Sat.sub at hg
    split at hg <;> omega
  refine ⟨hlt, by omega, ?_, ?_⟩
  · unfold lostL
    rw [List.length_map, List.length_map]
    refine filter_lt (fun x hx => lost_later (Int.le_refl n) (by omega) hx) ⟨y, hy, ?_, ?_⟩
    · unfold lostB
      rw [hy1, hy2]
      rfl
    · unfold lostB goneB
      rw [hy1, hy3]
      unfold Sat.sub
      simp
      right
      split <;> omega
  · have := lost_congr (n := n) (now := nextT n now win l - 1) (later := now) (win := win) (l := l) fun s hs hx => by
      cases hgs : goneB n now win s with
      | true => exact gone_later (Int.le_refl n) (by omega) hgs
      | false =>
        have h2 := hall s hs hx hgs
        have h3 := not_gone.1 hgs
        obtain ⟨h4, h5⟩ := ht s hs
        refine not_gone.2 ⟨h3.1, ?_⟩
        have h6 := h3.2
        unfold Sat.sub at h6 ⊢
        split <;> split at h6 <;> omega
    exact this
/-- What is lost stays so. -/
theorem lost_sub {n m now later win : Int} (hn : n ≤ m) (h : now ≤ later) (l : List Sn) : (lostL n now win l).Sublist (lostL m later win l) := by
  unfold lostL
  refine List.Sublist.map _ ?_
  induction l with
  | nil => exact List.Sublist.refl _
  | cons s l ih =>
    rw [List.filter_cons, List.filter_cons]
    cases hp : lostB n now win s with
    | true => rw [lost_later hn h hp]; exact ih.cons_cons _
    | false =>
      cases hq : lostB m later win s with
      | true => exact ih.cons _
      | false => exact ih
theorem sub_next {a b : List Int} {x : Int} {k : Nat} (h : (a.drop k).Sublist (x :: b)) : if k < a.length ∧ a.getD k 0 = x then (a.drop (k + 1)).Sublist b else (a.drop k).Sublist b := by
  by_cases hk : k < a.length
  · rw [List.drop_eq_getElem_cons hk] at h ⊢
    have e : a.getD k 0 = a[k] := by simp [List.getD, hk]
    rw [e]
    split
    · rename_i hc
      rw [hc.2] at h
      exact List.cons_sublist_cons.1 h
    · rename_i hc
      cases h with
      | cons _ h => exact h
      | cons_cons _ h => exact absurd ⟨hk, rfl⟩ hc
  · rw [if_neg fun hc => hk hc.1, List.drop_eq_nil_of_le (by omega)]
    exact List.nil_sublist _
/-- A number that is lost is kept. -/
theorem lost_mem {g : Lg} (h : Ok g) {n now win x : Int} (hx : x ∈ lostL n now win (allS g)) : ∃ i : Nat, x = i ∧ lowN g ≤ i ∧ i < g.l.length ∧ lostB n now win (atN g i) = true ∧ (atN g i).pn = i := by
  unfold lostL at hx
  obtain ⟨s, hs, rfl⟩ := List.mem_map.1 hx
  obtain ⟨hs, hl⟩ := List.mem_filter.1 hs
  unfold allS at hs
  obtain ⟨j, hj, rfl⟩ := List.mem_iff_getElem.1 hs
  have hj' := hj
  rw [List.length_drop] at hj'
  have e : (g.l.drop (lowN g))[j] = atN g (lowN g + j) := by
    unfold atN
    rw [List.getElem_drop, show g.l.getD (lowN g + j) Z8 = g.l[lowN g + j]'(by omega) by simp [List.getD, show lowN g + j < g.l.length by omega]]
  have := (h.each (lowN g + j) (by omega)).1
  rw [e] at hl ⊢
  exact ⟨lowN g + j, this, by omega, by omega, hl, this⟩
theorem lost_in {n now win : Int} {l : List Sn} {i : Nat} (hi : i < l.length) (hs : (l.getD i Z8).state = 1) (hp : (l.getD i Z8).pn + 3 ≤ n) : (l.getD i Z8).pn ∈ lostL n now win l := by
  rw [show l.getD i Z8 = l[i] by simp [List.getD, hi]] at *
  unfold lostL
  refine List.mem_map.2 ⟨l[i], List.mem_filter.2 ⟨List.getElem_mem hi, ?_⟩, rfl⟩
  unfold lostB seenB goneB
  simp only [Bool.and_eq_true, Bool.or_eq_true, decide_eq_true_eq]
  exact ⟨⟨hs, by omega⟩, .inl (by omega)⟩
end Go.Proofs.Ytoncominjgkjoaa.LossPlain
