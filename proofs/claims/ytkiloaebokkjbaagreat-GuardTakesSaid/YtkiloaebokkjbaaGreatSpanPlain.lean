/-
  Rows of spans: plain facts on sets of numbers. Nothing here names a program.
-/
namespace Go.Proofs.YtkiloaebokkjbaaGreat.SpanPlain
set_option linter.unusedVariables false

abbrev Sp := Int × Int
def M : Int := 4611686018427387903
/-- A valid span. -/
def ok (s : Sp) : Bool := decide (s.1 ≤ s.2) && decide (s.2 ≤ M)
/-- A row whose numbers are b or greater. -/
def goodFrom : Int → List Sp → Bool
  | _, [] => true
  | b, s :: r => decide (b ≤ s.1) && decide (s.1 ≤ s.2) && decide (s.2 ≤ M) && goodFrom (s.2 + 2) r
def good (l : List Sp) : Bool := goodFrom 0 l
theorem goodFrom_cons {b : Int} {s : Sp} {r : List Sp} : goodFrom b (s :: r) = true ↔ b ≤ s.1 ∧ s.1 ≤ s.2 ∧ s.2 ≤ M ∧ goodFrom (s.2 + 2) r = true := by
  simp [goodFrom, and_assoc]
theorem goodFrom_mono {b c : Int} {l : List Sp} (h : goodFrom b l = true) (hc : c ≤ b) : goodFrom c l = true := by
  cases l with
  | nil => rfl
  | cons s r =>
    rw [goodFrom_cons] at h ⊢
    exact ⟨by omega, h.2⟩
/-- Is n in one of them? -/
def has (l : List Sp) (n : Int) : Bool := l.any fun s => decide (s.1 ≤ n) && decide (n ≤ s.2)
theorem has_nil (n : Int) : has [] n = false := rfl
theorem has_cons (s : Sp) (r : List Sp) (n : Int) : has (s :: r) n = ((decide (s.1 ≤ n) && decide (n ≤ s.2)) || has r n) := rfl
theorem has_iff {s : Sp} {r : List Sp} {n : Int} : has (s :: r) n = true ↔ (s.1 ≤ n ∧ n ≤ s.2) ∨ has r n = true := by
  rw [has_cons]
  simp
theorem has_append (a b : List Sp) (n : Int) : has (a ++ b) n = (has a n || has b n) := List.any_append
theorem has_lt : ∀ {l : List Sp} {b n : Int}, goodFrom b l = true → n < b → has l n = false
  | [], _, _, _, _ => rfl
  | s :: r, b, n, h, hn => by
    obtain ⟨h1, h2, h3, h4⟩ := goodFrom_cons.1 h
    rw [has_cons, has_lt h4 (by omega)]
    simp
    omega
theorem has_le : ∀ {l : List Sp} {b n : Int}, goodFrom b l = true → has l n = true → b ≤ n ∧ n ≤ M
  | [], _, _, _, hn => by cases hn
  | s :: r, b, n, h, hn => by
    obtain ⟨h1, h2, h3, h4⟩ := goodFrom_cons.1 h
    rw [has_cons, Bool.or_eq_true] at hn
    rcases hn with hn | hn
    · simp at hn; omega
    · have := has_le h4 hn; omega
/-- A set has one row. -/
theorem good_ext : ∀ {l m : List Sp} {b c : Int}, goodFrom b l = true → goodFrom c m = true → (∀ n, has l n = has m n) → l = m
  | [], [], _, _, _, _, _ => rfl
  | [], t :: q, b, c, _, hm, h => by
    obtain ⟨h1, h2, h3, h4⟩ := goodFrom_cons.1 hm
    have := h t.1
    simp [has_cons, has_nil] at this
    omega
  | s :: r, [], b, c, hl, _, h => by
    obtain ⟨h1, h2, h3, h4⟩ := goodFrom_cons.1 hl
    have := h s.1
    simp [has_cons, has_nil] at this
    omega
  | s :: r, t :: q, b, c, hl, hm, h => by
    obtain ⟨a1, a2, a3, a4⟩ := goodFrom_cons.1 hl
    obtain ⟨c1, c2, c3, c4⟩ := goodFrom_cons.1 hm
    have e1 : s.1 = t.1 := by
      have x : t.1 ≤ s.1 := by
        rcases has_iff.1 (show has (t :: q) s.1 = true by rw [← h, has_iff]; exact .inl ⟨Int.le_refl _, a2⟩) with m | m
        · exact m.1
        · have := has_le c4 m; omega
      have y : s.1 ≤ t.1 := by
        rcases has_iff.1 (show has (s :: r) t.1 = true by rw [h, has_iff]; exact .inl ⟨Int.le_refl _, c2⟩) with m | m
        · exact m.1
        · have := has_le a4 m; omega
      omega
    have e2 : s.2 = t.2 := by
      have x : ¬ s.2 < t.2 := fun hlt => by
        rcases has_iff.1 (show has (s :: r) (s.2 + 1) = true by rw [h, has_iff]; exact .inl (by omega)) with m | m
        · omega
        · have := has_le a4 m; omega
      have y : ¬ t.2 < s.2 := fun hlt => by
        rcases has_iff.1 (show has (t :: q) (t.2 + 1) = true by rw [← h, has_iff]; exact .inl (by omega)) with m | m
        · omega
        · have := has_le c4 m; omega
      omega
    have e : s = t := Prod.ext e1 e2
    subst e
    rw [good_ext a4 c4 fun n => by
      have x := h n
      rw [has_cons, has_cons] at x
      by_cases hn : n < s.2 + 2
      · rw [has_lt a4 hn, has_lt c4 hn]
      · simpa [show ¬ n ≤ s.2 by omega] using x]

/-- The numbers of both, as the reference goes: those that touch s fall together with it. -/
def merge : List Sp → Sp → Sp × List Sp
  | [], s => (s, [])
  | a :: r, s => if a.1 ≤ s.2 + 1 then merge r (min s.1 a.1, max s.2 a.2) else (s, a :: r)
def addS : List Sp → Sp → List Sp
  | [], s => [s]
  | a :: r, s => if a.2 + 1 < s.1 then a :: addS r s else (merge (a :: r) s).1 :: (merge (a :: r) s).2
theorem merge_good : ∀ {l : List Sp} {s : Sp} {b c : Int}, goodFrom b l = true → c ≤ s.1 → c ≤ b → s.1 ≤ s.2 → s.2 ≤ M → (l = [] ∨ s.1 ≤ b) ∨ True →
    goodFrom c ((merge l s).1 :: (merge l s).2) = true ∧ ∀ n, has l n = true ∨ (s.1 ≤ n ∧ n ≤ s.2) → has ((merge l s).1 :: (merge l s).2) n = true
  | [], s, b, c, _, h1, _, h2, h3, _ => ⟨goodFrom_cons.2 ⟨h1, h2, h3, rfl⟩, fun n hn => by
      rcases hn with hn | hn
      · cases hn
      · rw [merge, has_cons]; simp [hn]⟩
  | a :: r, s, b, c, h, h1, hcb, h2, h3, _ => by
    obtain ⟨a1, a2, a3, a4⟩ := goodFrom_cons.1 h
    rw [merge]
    split
    · rename_i ht
      obtain ⟨g1, g2⟩ := merge_good (s := (min s.1 a.1, max s.2 a.2)) (c := c) a4 (by simp only; omega) (by omega) (by simp only; omega) (by simp only; omega) (.inr trivial)
      refine ⟨g1, fun n hn => g2 n ?_⟩
      simp only
      rcases hn with hn | hn
      · rw [has_cons, Bool.or_eq_true] at hn
        rcases hn with hn | hn
        · simp at hn; exact .inr (by omega)
        · exact .inl hn
      · exact .inr (by omega)
    · rename_i ht
      refine ⟨goodFrom_cons.2 ⟨h1, h2, h3, goodFrom_cons.2 ⟨by show s.2 + 2 ≤ a.1; omega, a2, a3, a4⟩⟩, fun n hn => ?_⟩
      rw [has_cons]
      rcases hn with hn | hn
      · rw [hn, Bool.or_true]
      · simp [hn]
theorem merge_has : ∀ {l : List Sp} {s : Sp} {b : Int}, goodFrom b l = true → s.1 ≤ s.2 → s.1 ≤ b + (s.2 - s.1) + (b - s.1) + 1 ∨ True → (∀ a ∈ l, s.1 ≤ a.2 + 1) →
    ∀ n, has ((merge l s).1 :: (merge l s).2) n = true → has l n = true ∨ (s.1 ≤ n ∧ n ≤ s.2)
  | [], s, b, _, _, _, _, n, hn => by
    rw [merge, has_cons] at hn
    simp [has_nil] at hn
    exact .inr hn
  | a :: r, s, b, h, h2, _, hall, n, hn => by
    obtain ⟨a1, a2, a3, a4⟩ := goodFrom_cons.1 h
    have ha := hall a (by simp)
    rw [merge] at hn
    split at hn
    · rename_i ht
      have := merge_has (s := (min s.1 a.1, max s.2 a.2)) a4 (by simp only; omega) (.inr trivial) (fun x hx => by
        have := hall x (by simp [hx])
        simp only
        omega) n hn
      rw [has_cons]
      rcases this with h5 | h5
      · exact .inl (by rw [h5, Bool.or_true])
      · simp only at h5
        by_cases hs : s.1 ≤ n ∧ n ≤ s.2
        · exact .inr hs
        · refine .inl ?_
          have : a.1 ≤ n ∧ n ≤ a.2 := by omega
          simp [this]
    · rw [has_cons, Bool.or_eq_true] at hn
      rcases hn with hn | hn
      · simp at hn; exact .inr hn
      · exact .inl hn
theorem good_last : ∀ {l : List Sp} {b : Int}, goodFrom b l = true → ∀ a ∈ l, b ≤ a.1 ∧ a.1 ≤ a.2 ∧ a.2 ≤ M
  | [], _, _, _, h => by cases h
  | s :: r, b, h, a, ha => by
    obtain ⟨a1, a2, a3, a4⟩ := goodFrom_cons.1 h
    rcases List.mem_cons.1 ha with rfl | ha
    · exact ⟨a1, a2, a3⟩
    · have := good_last a4 a ha
      exact ⟨by omega, this.2⟩
theorem add_good : ∀ {l : List Sp} {s : Sp} {b : Int}, goodFrom b l = true → b ≤ s.1 → s.1 ≤ s.2 → s.2 ≤ M →
    goodFrom b (addS l s) = true ∧ ∀ n, has (addS l s) n = (has l n || (decide (s.1 ≤ n) && decide (n ≤ s.2)))
  | [], s, b, _, h1, h2, h3 => ⟨goodFrom_cons.2 ⟨h1, h2, h3, rfl⟩, fun n => by simp [addS, has_cons, has_nil]⟩
  | a :: r, s, b, h, h1, h2, h3 => by
    obtain ⟨a1, a2, a3, a4⟩ := goodFrom_cons.1 h
    rw [addS]
    split
    · rename_i ht
      obtain ⟨g1, g2⟩ := add_good a4 (by omega) h2 h3
      exact ⟨goodFrom_cons.2 ⟨a1, a2, a3, g1⟩, fun n => by rw [has_cons, has_cons, g2, Bool.or_assoc]⟩
    · rename_i ht
      obtain ⟨g1, g2⟩ := merge_good h h1 (Int.le_refl b) h2 h3 (.inr trivial)
      refine ⟨g1, fun n => ?_⟩
      have g3 := merge_has h h2 (.inr trivial) (fun x hx => by
        rcases List.mem_cons.1 hx with rfl | hx
        · omega
        · have := good_last a4 x hx; omega) n
      rw [Bool.eq_iff_iff]
      simp only [Bool.or_eq_true, Bool.and_eq_true, decide_eq_true_eq]
      exact ⟨g3, g2 n⟩
/-- The numbers of the row that s has not. -/
def cut1 (s a : Sp) : List Sp := if a.2 < s.1 ∨ s.2 < a.1 then [a] else (if a.1 < s.1 then [(a.1, s.1 - 1)] else []) ++ (if s.2 < a.2 then [(s.2 + 1, a.2)] else [])
def cutS (l : List Sp) (s : Sp) : List Sp := l.flatMap (cut1 s)
theorem cut1_good {s a : Sp} {b : Int} {q : List Sp} (hs : s.1 ≤ s.2) (h1 : b ≤ a.1) (h2 : a.1 ≤ a.2) (h3 : a.2 ≤ M) (hq : goodFrom (a.2 + 2) q = true) : goodFrom b (cut1 s a ++ q) = true := by
  unfold cut1
  split
  · exact goodFrom_cons.2 ⟨h1, h2, h3, hq⟩
  · rename_i hn
    split
    · split
      · exact goodFrom_cons.2 ⟨h1, by simp only; omega, by simp only; omega, goodFrom_cons.2 ⟨by simp only; omega, by simp only; omega, h3, hq⟩⟩
      · exact goodFrom_cons.2 ⟨h1, by simp only; omega, by simp only; omega, goodFrom_mono hq (by simp only; omega)⟩
    · split
      · exact goodFrom_cons.2 ⟨by simp only; omega, by simp only; omega, h3, hq⟩
      · exact goodFrom_mono hq (by omega)
theorem cut1_has {s a : Sp} (hs : s.1 ≤ s.2) (n : Int) : has (cut1 s a) n = ((decide (a.1 ≤ n) && decide (n ≤ a.2)) && !(decide (s.1 ≤ n) && decide (n ≤ s.2))) := by
  unfold cut1
  rw [Bool.eq_iff_iff]
  split
  · simp [has_cons, has_nil]; omega
  · split <;> split <;> simp [has_cons, has_nil] <;> omega
theorem cut_good : ∀ {l : List Sp} {s : Sp} {b : Int}, goodFrom b l = true → s.1 ≤ s.2 → goodFrom b (cutS l s) = true
  | [], _, _, _, _ => rfl
  | a :: r, s, b, h, hs => by
    obtain ⟨a1, a2, a3, a4⟩ := goodFrom_cons.1 h
    show goodFrom b (cut1 s a ++ cutS r s) = true
    exact cut1_good hs a1 a2 a3 (cut_good a4 hs)
theorem cut_has : ∀ (l : List Sp) {s : Sp} (hs : s.1 ≤ s.2) (n : Int), has (cutS l s) n = (has l n && !(decide (s.1 ≤ n) && decide (n ≤ s.2)))
  | [], _, _, _ => rfl
  | a :: r, s, hs, n => by
    show has (cut1 s a ++ cutS r s) n = _
    rw [has_append, cut1_has hs, cut_has r hs, has_cons]
    cases (decide (s.1 ≤ n) && decide (n ≤ s.2)) <;> simp
/-- How many numbers a row has. -/
def count (l : List Sp) : Int := (l.map fun s => s.2 - s.1 + 1).sum
theorem count_nil : count [] = 0 := rfl
theorem count_cons (s : Sp) (r : List Sp) : count (s :: r) = (s.2 - s.1 + 1) + count r := by simp [count]
/-- How many numbers below N a set has. -/
def card (f : Int → Bool) : Nat → Int
  | 0 => 0
  | n + 1 => card f n + if f n then 1 else 0
theorem card_ext {f g : Int → Bool} : ∀ {N : Nat}, (∀ n : Nat, n < N → f n = g n) → card f N = card g N
  | 0, _ => rfl
  | N + 1, h => by rw [card, card, card_ext fun n hn => h n (by omega), h N (by omega)]
theorem card_or {f g : Int → Bool} : ∀ {N : Nat}, (∀ n : Nat, n < N → ¬ (f n = true ∧ g n = true)) → card (fun n => f n || g n) N = card f N + card g N
  | 0, _ => rfl
  | N + 1, h => by
    have hN := h N (by omega)
    rw [card, card, card, card_or fun n hn => h n (by omega)]
    cases hf : f N <;> cases hg : g N <;> simp [hf, hg] at hN ⊢ <;> omega
theorem card_none {f : Int → Bool} {N : Nat} (h : ∀ n : Nat, n < N → f n = false) : card f N = 0 := by
  induction N with
  | zero => rfl
  | succ N ih => rw [card, ih fun n hn => h n (by omega), h N (by omega)]; rfl
theorem card_span {a b : Int} (h0 : 0 ≤ a) : ∀ {N : Nat}, card (fun n => decide (a ≤ n) && decide (n ≤ b)) N = if (N : Int) ≤ a then 0 else if b < a then 0 else (min ((N : Int) - 1) b) - a + 1
  | 0 => by rw [card, if_pos (by omega)]
  | N + 1 => by
    rw [card, card_span h0]
    by_cases h1 : (N : Int) + 1 ≤ a
    · rw [if_pos (by omega : ((N + 1 : Nat) : Int) ≤ a), if_pos (by omega : (N : Int) ≤ a)]
      simp
      omega
    · rw [if_neg (by omega : ¬ ((N + 1 : Nat) : Int) ≤ a)]
      by_cases h2 : b < a
      · rw [if_pos h2, if_pos h2]
        simp
        omega
      · rw [if_neg h2, if_neg h2]
        by_cases h3 : (N : Int) ≤ b
        · rw [if_pos (show (decide (a ≤ (N : Int)) && decide ((N : Int) ≤ b)) = true by simp; omega)]
          split <;> omega
        · rw [if_neg (show ¬ (decide (a ≤ (N : Int)) && decide ((N : Int) ≤ b)) = true by simp; omega)]
          split <;> omega
theorem count_card : ∀ {l : List Sp} {b : Int}, goodFrom b l = true → 0 ≤ b → count l = card (has l) 4611686018427387904
  | [], _, _, _ => by rw [count_nil, card_none fun n _ => rfl]
  | s :: r, b, h, h0 => by
    obtain ⟨a1, a2, a3, a4⟩ := goodFrom_cons.1 h
    unfold M at a3
    have e : card (has (s :: r)) 4611686018427387904 = card (fun n => (decide (s.1 ≤ n) && decide (n ≤ s.2)) || has r n) 4611686018427387904 := card_ext fun n _ => has_cons s r n
    rw [e, card_or (fun n _ hn => by
      have h1 := hn.1
      simp at h1
      rw [has_lt a4 (by omega)] at hn
      cases hn.2), card_span (by omega), count_cons, count_card a4 (by omega), if_neg (by omega), if_neg (by omega)]
    omega
theorem count_add {l : List Sp} {s : Sp} (h : good l = true) (h0 : 0 ≤ s.1) (h1 : s.1 ≤ s.2) (h2 : s.2 ≤ M) : count (addS l s) = count (cutS l s) + (s.2 - s.1 + 1) := by
  obtain ⟨g1, g2⟩ := add_good h h0 h1 h2
  unfold M at h2
  rw [count_card g1 (Int.le_refl 0), count_card (cut_good h h1) (Int.le_refl 0)]
  have e : card (has (addS l s)) 4611686018427387904 = card (fun n => has (cutS l s) n || (decide (s.1 ≤ n) && decide (n ≤ s.2))) 4611686018427387904 := card_ext fun n _ => by
    rw [g2, cut_has l h1]
    cases (decide (s.1 ≤ (n : Int)) && decide ((n : Int) ≤ s.2)) <;> simp
  rw [e, card_or (fun n _ hn => by
    rw [cut_has l h1, hn.2] at hn
    simp at hn), card_span h0, if_neg (by omega), if_neg (by omega)]
  omega
theorem count_bd : ∀ {l : List Sp} {b : Int}, goodFrom b l = true → 0 ≤ count l ∧ (l = [] ∨ count l ≤ M - b + 1)
  | [], _, _ => ⟨Int.le_refl _, .inl rfl⟩
  | s :: r, b, h => by
    obtain ⟨a1, a2, a3, a4⟩ := goodFrom_cons.1 h
    obtain ⟨c1, c2⟩ := count_bd a4
    rw [count_cons]
    refine ⟨by omega, .inr ?_⟩
    rcases c2 with rfl | c2
    · rw [count_nil]; omega
    · omega
theorem count_max {l : List Sp} (h : good l = true) : 0 ≤ count l ∧ count l ≤ 4611686018427387904 := by
  obtain ⟨c1, c2⟩ := count_bd h
  unfold M at c2
  refine ⟨c1, ?_⟩
  rcases c2 with rfl | c2
  · rw [count_nil]; omega
  · omega
/-- The last ones. -/
def lastS (l : List Sp) (n : Int) : List Sp := if n < 1 then [] else if (l.length : Int) ≤ n then l else l.drop (l.length - n.toNat)
theorem good_drop : ∀ {l : List Sp} {b : Int} (k : Nat), goodFrom b l = true → goodFrom b (l.drop k) = true
  | l, b, 0, h => h
  | [], b, k + 1, h => rfl
  | s :: r, b, k + 1, h => by
    obtain ⟨a1, a2, a3, a4⟩ := goodFrom_cons.1 h
    rw [List.drop_succ_cons]
    exact good_drop k (goodFrom_mono a4 (by omega))
theorem last_good {l : List Sp} (h : good l = true) (n : Int) : good (lastS l n) = true := by
  unfold lastS
  split
  · rfl
  · split
    · exact h
    · exact good_drop _ h
/-- Those that are lo or greater. -/
def from1 (lo : Int) (a : Sp) : List Sp := if lo ≤ a.2 then [(max a.1 lo, a.2)] else []
def fromS (l : List Sp) (lo : Int) : List Sp := l.flatMap (from1 lo)
theorem from_good : ∀ {l : List Sp} {b lo : Int}, goodFrom b l = true → goodFrom b (fromS l lo) = true
  | [], _, _, _ => rfl
  | a :: r, b, lo, h => by
    obtain ⟨a1, a2, a3, a4⟩ := goodFrom_cons.1 h
    show goodFrom b (from1 lo a ++ fromS r lo) = true
    unfold from1
    split
    · exact goodFrom_cons.2 ⟨by simp only; omega, by simp only; omega, a3, from_good a4⟩
    · exact goodFrom_mono (from_good a4) (by omega)
theorem from_has : ∀ (l : List Sp) (lo n : Int), has (fromS l lo) n = (has l n && decide (lo ≤ n))
  | [], _, _ => rfl
  | a :: r, lo, n => by
    show has (from1 lo a ++ fromS r lo) n = _
    rw [has_append, from_has r, has_cons]
    unfold from1
    rw [Bool.eq_iff_iff]
    split
    · simp [has_cons, has_nil]; constructor
      · rintro (⟨h1, h2⟩ | ⟨h1, h2⟩)
        · exact ⟨.inl (by omega), by omega⟩
        · exact ⟨.inr h1, h2⟩
      · rintro ⟨h1 | h1, h2⟩
        · exact .inl (by omega)
        · exact .inr ⟨h1, h2⟩
    · rw [has_nil, Bool.false_or, Bool.and_eq_true, Bool.and_eq_true, Bool.or_eq_true, Bool.and_eq_true, decide_eq_true_eq, decide_eq_true_eq, decide_eq_true_eq]
      constructor
      · rintro ⟨h1, h2⟩; exact ⟨.inr h1, h2⟩
      · rintro ⟨h1 | h1, h2⟩
        · omega
        · exact ⟨h1, h2⟩
/-- Is each span of a in one of b? -/
def inside (a b : List Sp) : Bool := a.all fun s => b.any fun t => decide (t.1 ≤ s.1) && decide (s.2 ≤ t.2)
/-- A span whose numbers are all in a row lies in one of its spans. -/
theorem one_span : ∀ {b : List Sp} {c : Int} {s : Sp}, goodFrom c b = true → s.1 ≤ s.2 → (∀ n, s.1 ≤ n → n ≤ s.2 → has b n = true) → (b.any fun t => decide (t.1 ≤ s.1) && decide (s.2 ≤ t.2)) = true
  | [], c, s, _, h1, h => by have := h s.1 (Int.le_refl _) h1; cases this
  | t :: q, c, s, hb, h1, h => by
    obtain ⟨a1, a2, a3, a4⟩ := goodFrom_cons.1 hb
    rw [List.any_cons, Bool.or_eq_true]
    have hs := h s.1 (Int.le_refl _) h1
    rw [has_cons, Bool.or_eq_true] at hs
    rcases hs with hs | hs
    · simp at hs
      refine .inl ?_
      by_cases he : s.2 ≤ t.2
      · simp [hs, he]
      · have := h (t.2 + 1) (by omega) (by omega)
        rw [has_cons, has_lt a4 (by omega)] at this
        simp at this
        omega
    · have hl := has_le a4 hs
      refine .inr (one_span a4 h1 fun n n1 n2 => ?_)
      have := h n n1 n2
      rw [has_cons, Bool.or_eq_true] at this
      rcases this with this | this
      · simp at this; omega
      · exact this
theorem inside_has {a b : List Sp} (h : inside a b = true) (n : Int) (hn : has a n = true) : has b n = true := by
  unfold inside at h
  unfold has at hn ⊢
  rw [List.any_eq_true] at hn ⊢
  obtain ⟨s, hs, h1⟩ := hn
  have := List.all_eq_true.1 h s hs
  rw [List.any_eq_true] at this
  obtain ⟨t, ht, h2⟩ := this
  simp at h1 h2
  exact ⟨t, ht, by simp; omega⟩
theorem inside_of {a b : List Sp} {c d : Int} (ha : goodFrom c a = true) (hb : goodFrom d b = true) (h : ∀ n, has a n = true → has b n = true) : inside a b = true := by
  unfold inside
  rw [List.all_eq_true]
  intro s hs
  have hg := good_last ha s hs
  refine one_span hb hg.2.1 fun n n1 n2 => h n ?_
  unfold has
  rw [List.any_eq_true]
  exact ⟨s, hs, by simp; omega⟩
/-- Do a's numbers lie below b's, one between them at least? -/
def ap (a b : Sp) : Bool := decide (a.2 + 1 < b.1)
def Fits (l : List Sp) : Prop := ∀ s ∈ l, (0 ≤ s.1 ∧ s.1 ≤ 18446744073709551615) ∧ (0 ≤ s.2 ∧ s.2 ≤ 18446744073709551615)
theorem Fits.nil : Fits [] := fun _ h => by cases h
theorem Fits.cons {s : Sp} {l : List Sp} (hs : (0 ≤ s.1 ∧ s.1 ≤ 18446744073709551615) ∧ (0 ≤ s.2 ∧ s.2 ≤ 18446744073709551615)) (h : Fits l) : Fits (s :: l) := fun x hx => by
  rcases List.mem_cons.1 hx with rfl | hx
  · exact hs
  · exact h x hx
theorem Fits.get {l : List Sp} (h : Fits l) {k : Nat} (hk : k < l.length) : (0 ≤ (l.getD k (0, 0)).1 ∧ (l.getD k (0, 0)).1 ≤ 18446744073709551615) ∧ (0 ≤ (l.getD k (0, 0)).2 ∧ (l.getD k (0, 0)).2 ≤ 18446744073709551615) := by
  have : l.getD k (0, 0) = l[k] := by simp [List.getD, hk]
  rw [this]
  exact h _ (List.getElem_mem hk)
theorem Fits.of_good {l : List Sp} (h : good l = true) : Fits l := fun s hs => by
  have := good_last h s hs
  unfold M at this
  omega
theorem ok_iff {s : Sp} : ok s = true ↔ s.1 ≤ s.2 ∧ s.2 ≤ 4611686018427387903 := by unfold ok M; simp
theorem ok_not {s : Sp} : ok s = false ↔ ¬ (s.1 ≤ s.2 ∧ s.2 ≤ 4611686018427387903) := by rw [← ok_iff]; simp
theorem ap_iff {a b : Sp} : ap a b = true ↔ a.2 + 1 < b.1 := by unfold ap; simp
theorem ap_not {a b : Sp} : ap a b = false ↔ ¬ a.2 + 1 < b.1 := by unfold ap; simp
/-- The next span of a row. -/
def nextOk (l : List Sp) (k : Nat) : Bool := ok (l.getD k (0, 0)) && (decide (k = 0) || ap (l.getD (k - 1) (0, 0)) (l.getD k (0, 0)))
theorem goodFrom_take : ∀ {l : List Sp} {b : Int} {k : Nat}, k < l.length → goodFrom b (l.take (k + 1)) = (goodFrom b (l.take k) && ok (l.getD k (0, 0)) && (if k = 0 then decide (b ≤ (l.getD k (0, 0)).1) else ap (l.getD (k - 1) (0, 0)) (l.getD k (0, 0))))
  | s :: r, b, 0, _ => by
    simp only [List.take_succ_cons, List.take_zero, goodFrom, List.getD_cons_zero, Bool.and_true, Bool.true_and, if_true, ok]
    cases decide (b ≤ s.1) <;> simp
  | s :: r, b, k + 1, h => by
    have h' : k < r.length := by simpa using h
    rw [List.take_succ_cons, List.take_succ_cons, goodFrom, goodFrom, goodFrom_take h', List.getD_cons_succ, if_neg (by omega : ¬ k + 1 = 0)]
    rcases k with _ | k
    · simp only [Nat.zero_add, Nat.sub_self, List.getD_cons_zero, if_true, List.take_zero, goodFrom, Bool.and_true]
      rw [Bool.eq_iff_iff]
      simp [ap]
      constructor
      · rintro ⟨h1, h2, h3⟩; exact ⟨⟨h1, h2⟩, by omega⟩
      · rintro ⟨⟨h1, h2⟩, h3⟩; exact ⟨h1, h2, by omega⟩
    · rw [if_neg (by omega : ¬ k + 1 = 0), show k + 1 + 1 - 1 = (k + 1 - 1) + 1 by omega, List.getD_cons_succ]
      simp only [Bool.and_assoc]
theorem good_take {l : List Sp} (hf : Fits l) {k : Nat} (h : k < l.length) : good (l.take (k + 1)) = (good (l.take k) && nextOk l k) := by
  unfold good nextOk
  rw [goodFrom_take h, Bool.and_assoc]
  congr 2
  have := (hf.get h).1.1
  split
  · rename_i e
    subst e
    rw [decide_eq_true this]
    rfl
  · rename_i e
    simp [e]
theorem goodFrom_of_take : ∀ {l : List Sp} {b : Int} (k : Nat), goodFrom b l = true → goodFrom b (l.take k) = true
  | l, b, 0, h => rfl
  | [], b, k + 1, h => rfl
  | s :: r, b, k + 1, h => by
    obtain ⟨a1, a2, a3, a4⟩ := goodFrom_cons.1 h
    rw [List.take_succ_cons]
    exact goodFrom_cons.2 ⟨a1, a2, a3, goodFrom_of_take k a4⟩
theorem good_stop {l : List Sp} (hf : Fits l) {k : Nat} (h : k < l.length) (hn : nextOk l k = false) : good l = false := by
  cases hg : good l with
  | false => rfl
  | true =>
    have := goodFrom_of_take (k + 1) hg
    change good (l.take (k + 1)) = true at this
    rw [good_take hf h, hn, Bool.and_false] at this
    cases this
theorem cut1_far {s a : Sp} (h : s.2 < a.1) : cut1 s a = [a] := by unfold cut1; rw [if_pos (.inr h)]
theorem cut_above : ∀ {l : List Sp} {s : Sp} {b : Int}, goodFrom b l = true → s.2 < b → cutS l s = l
  | [], _, _, _, _ => rfl
  | a :: r, s, b, h, hs => by
    obtain ⟨a1, a2, a3, a4⟩ := goodFrom_cons.1 h
    show cut1 s a ++ cutS r s = _
    rw [cut1_far (by omega), cut_above a4 (by omega)]
    rfl
theorem cut_len : ∀ {l : List Sp} {s : Sp} {b : Int}, goodFrom b l = true → (cutS l s).length ≤ l.length + 1
  | [], _, _, _ => Nat.zero_le _
  | a :: r, s, b, h => by
    obtain ⟨a1, a2, a3, a4⟩ := goodFrom_cons.1 h
    show (cut1 s a ++ cutS r s).length ≤ _
    rw [List.length_append, List.length_cons]
    have ih := cut_len (s := s) a4
    unfold cut1
    split
    · simp only [List.length_singleton]; omega
    · by_cases h2 : s.2 < a.2
      · rw [cut_above a4 (by omega), if_pos h2]
        split <;> simp only [List.length_append, List.length_singleton, List.length_nil] <;> omega
      · rw [if_neg h2]
        split <;> simp only [List.length_append, List.length_singleton, List.length_nil] <;> omega
theorem merge_len : ∀ (l : List Sp) (s : Sp), (merge l s).2.length ≤ l.length
  | [], s => Nat.le_refl _
  | a :: r, s => by
    rw [merge]
    split
    · have := merge_len r (min s.1 a.1, max s.2 a.2)
      rw [List.length_cons]
      omega
    · exact Nat.le_refl _
theorem add_len : ∀ (l : List Sp) (s : Sp), (addS l s).length ≤ l.length + 1
  | [], s => Nat.le_refl _
  | a :: r, s => by
    rw [addS]
    split
    · have := add_len r s
      rw [List.length_cons, List.length_cons]
      omega
    · have := merge_len (a :: r) s
      rw [List.length_cons]
      omega
theorem from_len : ∀ (l : List Sp) (lo : Int), (fromS l lo).length ≤ l.length
  | [], _ => Nat.le_refl _
  | a :: r, lo => by
    show (from1 lo a ++ fromS r lo).length ≤ _
    have := from_len r lo
    rw [List.length_append, List.length_cons]
    unfold from1
    split <;> simp only [List.length_singleton, List.length_nil] <;> omega
theorem take_snoc {l : List Sp} {k : Nat} (h : k < l.length) : l.take (k + 1) = l.take k ++ [l.getD k (0, 0)] := by
  rw [List.take_succ_eq_append_getElem h]
  simp [List.getD, h]
theorem drop_cons {l : List Sp} {k : Nat} (h : k < l.length) : l.drop k = l.getD k (0, 0) :: l.drop (k + 1) := by
  rw [List.drop_eq_getElem_cons h]
  simp [List.getD, h]
theorem cut_take {l : List Sp} {k : Nat} (h : k < l.length) (s : Sp) : cutS (l.take (k + 1)) s = cutS (l.take k) s ++ cut1 s (l.getD k (0, 0)) := by
  rw [take_snoc h]
  simp [cutS]
theorem from_take {l : List Sp} {k : Nat} (h : k < l.length) (lo : Int) : fromS (l.take (k + 1)) lo = fromS (l.take k) lo ++ from1 lo (l.getD k (0, 0)) := by
  rw [take_snoc h]
  simp [fromS]
theorem count_append (l m : List Sp) : count (l ++ m) = count l + count m := by simp [count]
theorem count_take {l : List Sp} {k : Nat} (h : k < l.length) : count (l.take (k + 1)) = count (l.take k) + ((l.getD k (0, 0)).2 - (l.getD k (0, 0)).1 + 1) := by
  rw [take_snoc h, count_append, count_cons, count_nil]
  omega
theorem has_take {l : List Sp} {k : Nat} (h : k < l.length) (n : Int) : has (l.take (k + 1)) n = (has (l.take k) n || (decide ((l.getD k (0, 0)).1 ≤ n) && decide (n ≤ (l.getD k (0, 0)).2))) := by
  rw [take_snoc h, has_append, has_cons, has_nil, Bool.or_false]
theorem has_more {l : List Sp} (k : Nat) (n : Int) (h : has (l.take k) n = true) : has l n = true := by
  rw [← List.take_append_drop k l, has_append, h]
  rfl
/-- Does one span of b hold all of s? -/
def covers (b : List Sp) (s : Sp) : Bool := b.any fun t => decide (t.1 ≤ s.1) && decide (s.2 ≤ t.2)
theorem covers_take {b : List Sp} {j : Nat} (h : j < b.length) (s : Sp) : covers (b.take (j + 1)) s = (covers (b.take j) s || (decide ((b.getD j (0, 0)).1 ≤ s.1) && decide (s.2 ≤ (b.getD j (0, 0)).2))) := by
  rw [take_snoc h]
  simp [covers]
theorem inside_take {a : List Sp} {k : Nat} (h : k < a.length) (b : List Sp) : inside (a.take (k + 1)) b = (inside (a.take k) b && covers b (a.getD k (0, 0))) := by
  rw [take_snoc h]
  simp only [inside, covers, List.all_append, List.all_cons, List.all_nil, Bool.and_true]
theorem inside_stop {a : List Sp} {k : Nat} (h : k < a.length) {b : List Sp} (hc : covers b (a.getD k (0, 0)) = false) : inside a b = false := by
  rw [← List.take_append_drop (k + 1) a]
  have := inside_take h b
  rw [hc, Bool.and_false] at this
  unfold inside at *
  rw [List.all_append, this]
  rfl
theorem add_step {l : List Sp} {k : Nat} {s : Sp} (h : k < l.length) (ht : (l.getD k (0, 0)).2 + 1 < s.1) (hk : addS l s = l.take k ++ addS (l.drop k) s) : addS l s = l.take (k + 1) ++ addS (l.drop (k + 1)) s := by
  rw [hk, drop_cons h, addS, if_pos ht, take_snoc h, List.append_assoc]
  rfl
theorem add_stop {l : List Sp} {k : Nat} {s : Sp} (h : k = l.length ∨ (k < l.length ∧ ¬ (l.getD k (0, 0)).2 + 1 < s.1)) : addS (l.drop k) s = (merge (l.drop k) s).1 :: (merge (l.drop k) s).2 := by
  rcases h with rfl | ⟨h, ht⟩
  · rw [List.drop_length]
    rfl
  · rw [drop_cons h, addS, if_neg ht]
theorem merge_step {l : List Sp} {j : Nat} {s : Sp} (h : j < l.length) (ht : (l.getD j (0, 0)).1 ≤ s.2 + 1) : merge (l.drop j) s = merge (l.drop (j + 1)) (min s.1 (l.getD j (0, 0)).1, max s.2 (l.getD j (0, 0)).2) := by
  rw [drop_cons h, merge, if_pos ht]
theorem merge_stop {l : List Sp} {j : Nat} {s : Sp} (h : j = l.length ∨ (j < l.length ∧ ¬ (l.getD j (0, 0)).1 ≤ s.2 + 1)) : merge (l.drop j) s = (s, l.drop j) := by
  rcases h with rfl | ⟨h, ht⟩
  · rw [List.drop_length]
    rfl
  · rw [drop_cons h, merge, if_neg ht]
theorem good_get {l : List Sp} (h : good l = true) {k : Nat} (hk : k < l.length) : 0 ≤ (l.getD k (0, 0)).1 ∧ (l.getD k (0, 0)).1 ≤ (l.getD k (0, 0)).2 ∧ (l.getD k (0, 0)).2 ≤ 4611686018427387903 := by
  have := good_last h (l.getD k (0, 0)) (by simp [List.getD, hk])
  unfold M at this
  exact this
/-- Where the program stands that adds s0 to the row l: behind k spans, those below, the span that has grown, those above. -/
def AddSt (l : List Sp) (s0 : Sp) (k : Nat) (lb : List Sp) (s : Sp) (la : List Sp) : Prop :=
  0 ≤ s.1 ∧ s.1 ≤ s.2 ∧ s.2 ≤ M ∧ lb.length + la.length ≤ k ∧ goodFrom 0 (l.drop k) = true ∧
    ((la = [] ∧ addS l s0 = lb ++ addS (l.drop k) s) ∨ (addS l s0 = lb ++ s :: (la ++ l.drop k) ∧ goodFrom (s.2 + 2) (l.drop k) = true))
theorem AddSt.start {l : List Sp} {s : Sp} (hg : good l = true) (h0 : 0 ≤ s.1) (h1 : s.1 ≤ s.2) (h2 : s.2 ≤ M) : AddSt l s 0 [] s [] := ⟨h0, h1, h2, Nat.le_refl _, hg, .inl ⟨rfl, rfl⟩⟩
theorem AddSt.below {l : List Sp} {s0 s x : Sp} {k : Nat} {lb la : List Sp} (h : AddSt l s0 k lb s la) (hk : k < l.length) (hx : l.getD k (0, 0) = x) (ha : ap x s = true) : AddSt l s0 (k + 1) (lb ++ [x]) s la := by
  obtain ⟨a1, a2, a3, a4, ag, a5⟩ := h
  rw [ap_iff] at ha
  rw [drop_cons hk, hx] at ag a5
  obtain ⟨g1, g2, g3, g4⟩ := goodFrom_cons.1 ag
  refine ⟨a1, a2, a3, by rw [List.length_append, List.length_singleton]; omega, goodFrom_mono g4 (by omega), ?_⟩
  rcases a5 with ⟨h1, h2⟩ | ⟨h1, h2⟩
  · exact .inl ⟨h1, by rw [h2, addS, if_pos ha, List.append_assoc]; rfl⟩
  · obtain ⟨b1, b2, b3, b4⟩ := goodFrom_cons.1 h2
    omega
theorem AddSt.above {l : List Sp} {s0 s x : Sp} {k : Nat} {lb la : List Sp} (h : AddSt l s0 k lb s la) (hk : k < l.length) (hx : l.getD k (0, 0) = x) (ha : ap s x = true) : AddSt l s0 (k + 1) lb s (la ++ [x]) := by
  obtain ⟨a1, a2, a3, a4, ag, a5⟩ := h
  rw [ap_iff] at ha
  rw [drop_cons hk, hx] at ag a5
  obtain ⟨g1, g2, g3, g4⟩ := goodFrom_cons.1 ag
  refine ⟨a1, a2, a3, by rw [List.length_append, List.length_singleton]; omega, goodFrom_mono g4 (by omega), .inr ⟨?_, goodFrom_mono g4 (by omega)⟩⟩
  rcases a5 with ⟨h1, h2⟩ | ⟨h1, h2⟩
  · rw [h2, h1, addS, if_neg (by omega), merge, if_neg (by omega)]
    rfl
  · rw [h1, List.append_assoc]
    rfl
theorem AddSt.hull {l : List Sp} {s0 s x : Sp} {k : Nat} {lb la : List Sp} (h : AddSt l s0 k lb s la) (hk : k < l.length) (hx : l.getD k (0, 0) = x) (ha : ap x s = false) (hb : ap s x = false) : AddSt l s0 (k + 1) lb (min s.1 x.1, max s.2 x.2) la := by
  obtain ⟨a1, a2, a3, a4, ag, a5⟩ := h
  rw [ap_not] at ha hb
  rw [drop_cons hk, hx] at ag a5
  obtain ⟨g1, g2, g3, g4⟩ := goodFrom_cons.1 ag
  refine ⟨by simp only; omega, by simp only; omega, by simp only; omega, by omega, goodFrom_mono g4 (by omega), ?_⟩
  rcases a5 with ⟨h1, h2⟩ | ⟨h1, h2⟩
  · refine .inl ⟨h1, ?_⟩
    rw [h2, addS, if_neg ha, merge, if_pos (by omega)]
    congr 1
    revert g4
    generalize l.drop (k + 1) = r
    intro g4
    cases r with
    | nil => rfl
    | cons y r =>
      obtain ⟨b1, b2, b3, b4⟩ := goodFrom_cons.1 g4
      rw [addS, if_neg (by simp only; omega)]
  · obtain ⟨b1, b2, b3, b4⟩ := goodFrom_cons.1 h2
    omega
theorem AddSt.done {l : List Sp} {s0 s : Sp} {k : Nat} {lb la : List Sp} (h : AddSt l s0 k lb s la) (hk : l.length ≤ k) : addS l s0 = lb ++ [s] ++ la := by
  obtain ⟨a1, a2, a3, a4, ag, a5⟩ := h
  rw [List.drop_eq_nil_of_le hk] at a5
  rcases a5 with ⟨h1, h2⟩ | ⟨h1, h2⟩
  · rw [h2, h1, List.append_nil]
    rfl
  · rw [h1, List.append_nil, List.append_assoc]
    rfl
/-- What the program leaves of the span a beside s. -/
theorem cut1_is {s a : Sp} (hs : s.1 ≤ s.2) (ha : a.1 ≤ a.2) : cut1 s a = (if a.1 < s.1 then [(a.1, min a.2 (s.1 - 1))] else []) ++ (if s.2 < a.2 then [(max a.1 (s.2 + 1), a.2)] else []) := by
  obtain ⟨x, y⟩ := a
  obtain ⟨p, q⟩ := s
  simp only at hs ha
  unfold cut1
  simp only
  by_cases h1 : y < p
  · rw [if_pos (.inl h1), if_pos (by omega), if_neg (by omega), show min y (p - 1) = y by omega]
    rfl
  · by_cases h2 : q < x
    · rw [if_pos (.inr h2), if_neg (by omega), if_pos (by omega), show max x (q + 1) = x by omega]
      rfl
    · rw [if_neg (by omega), show min y (p - 1) = p - 1 by omega, show max x (q + 1) = q + 1 by omega]
/-- The first j spans of r end below all spans of l from the k-th on. -/
def Past (l r : List Sp) (k j : Nat) : Prop := ∀ i, i < j → ∀ m, k ≤ m → m < l.length → (r.getD i (0, 0)).2 < (l.getD m (0, 0)).2
theorem Past.start (l r : List Sp) (k : Nat) : Past l r k 0 := fun i hi => by omega
theorem Past.next {l r : List Sp} {k j : Nat} (h : Past l r k j) : Past l r (k + 1) j := fun i hi m hm hl => h i hi m (by omega) hl
theorem good_rise : ∀ {l : List Sp} {b : Int}, goodFrom b l = true → ∀ {i m : Nat}, i < m → m < l.length → (l.getD i (0, 0)).2 + 1 < (l.getD m (0, 0)).1
  | [], _, _, i, m, _, hm => by simp at hm
  | s :: r, b, h, 0, m + 1, _, hm => by
    obtain ⟨a1, a2, a3, a4⟩ := goodFrom_cons.1 h
    have hm' : m < r.length := by simpa using hm
    have := good_last a4 (r.getD m (0, 0)) (by simp [List.getD, hm'])
    rw [List.getD_cons_succ, List.getD_cons_zero]
    omega
  | s :: r, b, h, i + 1, m + 1, hi, hm => by
    obtain ⟨a1, a2, a3, a4⟩ := goodFrom_cons.1 h
    rw [List.getD_cons_succ, List.getD_cons_succ]
    exact good_rise a4 (by omega) (by simpa using hm)
theorem Past.step {l r : List Sp} {k j : Nat} (hl : good l = true) (h : Past l r k j) (hk : k < l.length) (hlt : (r.getD j (0, 0)).2 < (l.getD k (0, 0)).2) : Past l r k (j + 1) := fun i hi m hm hml => by
  rcases Nat.lt_or_ge i j with h1 | h1
  · exact h i h1 m hm hml
  · obtain rfl : i = j := by omega
    rcases Nat.lt_or_ge k m with h2 | h2
    · have := good_rise hl h2 hml
      have := good_get hl hml
      omega
    · obtain rfl : k = m := by omega
      exact hlt
theorem covers_iff {b : List Sp} {s : Sp} : covers b s = true ↔ ∃ i, i < b.length ∧ (b.getD i (0, 0)).1 ≤ s.1 ∧ s.2 ≤ (b.getD i (0, 0)).2 := by
  unfold covers
  rw [List.any_eq_true]
  constructor
  · rintro ⟨t, ht, h⟩
    obtain ⟨i, hi, rfl⟩ := List.mem_iff_getElem.1 ht
    refine ⟨i, hi, ?_⟩
    simp at h
    simpa [List.getD, hi] using h
  · rintro ⟨i, hi, h⟩
    refine ⟨b.getD i (0, 0), by simp [List.getD, hi], ?_⟩
    simp only [Bool.and_eq_true, decide_eq_true_eq]
    exact h
theorem covers_end {l r : List Sp} {k j : Nat} (h : Past l r k j) (hk : k < l.length) (hj : r.length ≤ j) : covers r (l.getD k (0, 0)) = false := by
  cases hc : covers r (l.getD k (0, 0)) with
  | false => rfl
  | true =>
    obtain ⟨i, hi, h1, h2⟩ := covers_iff.1 hc
    have := h i (by omega) k (Nat.le_refl _) hk
    omega
theorem covers_here {l r : List Sp} {k j : Nat} (hl : good l = true) (hr : good r = true) (h : Past l r k j) (hk : k < l.length) (hj : j < r.length) (hlt : ¬ (r.getD j (0, 0)).2 < (l.getD k (0, 0)).2) : covers r (l.getD k (0, 0)) = decide ((r.getD j (0, 0)).1 ≤ (l.getD k (0, 0)).1) := by
  rw [Bool.eq_iff_iff, covers_iff, decide_eq_true_eq]
  constructor
  · rintro ⟨i, hi, h1, h2⟩
    rcases Nat.lt_or_ge i j with h3 | h3
    · have := h i h3 k (Nat.le_refl _) hk
      omega
    · rcases Nat.lt_or_ge j i with h4 | h4
      · have := good_rise hr h4 hi
        have := good_get hl hk
        omega
      · obtain rfl : i = j := by omega
        exact h1
  · intro h1
    exact ⟨j, hj, h1, by omega⟩
theorem inside_one {l : List Sp} (h : good l = true) (n : Int) : inside [(n, n)] l = has l n := by
  unfold inside has
  simp only [List.all_cons, List.all_nil, Bool.and_true]
theorem good_one {n : Int} (h : 0 ≤ n) : good [(n, n)] = decide (n ≤ 4611686018427387903) := by
  rw [Bool.eq_iff_iff, decide_eq_true_eq]
  unfold good
  rw [goodFrom_cons]
  unfold M
  exact ⟨fun h => h.2.2.1, fun hn => ⟨h, Int.le_refl _, hn, rfl⟩⟩
theorem has_big {l : List Sp} (h : good l = true) {n : Int} (hn : 4611686018427387903 < n) : has l n = false := by
  cases hh : has l n with
  | false => rfl
  | true =>
    have := has_le h hh
    unfold M at this
    omega
end Go.Proofs.YtkiloaebokkjbaaGreat.SpanPlain
