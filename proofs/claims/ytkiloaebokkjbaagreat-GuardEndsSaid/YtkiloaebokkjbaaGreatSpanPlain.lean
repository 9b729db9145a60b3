/-
  Rows of spans: plain facts on sets of numbers. Nothing here names a program.
-/
namespace Go.Proofs.YtkiloaebokkjbaaGreat.SpanPlain
set_option linter.unusedVariables false

abbrev Sp := Int × Int
def M : Int := 4611686018427387903
/-- A valid span. -/
def ok (s : Sp) : Bool := decide (s.1 ≤ s.2) && decide (s.2 ≤ M)
/-- A row whose numbers are b or greater. -/
def goodFrom : Int → List Sp → Bool
  | _, [] => true
  | b, s :: r => decide (b ≤ s.1) && decide (s.1 ≤ s.2) && decide (s.2 ≤ M) && goodFrom (s.2 + 2) r
def good (l : List Sp) : Bool := goodFrom 0 l
theorem goodFrom_cons {b : Int} {s : Sp} {r : List Sp} : goodFrom b (s :: r) = true ↔ b ≤ s.1 ∧ s.1 ≤ s.2 ∧ s.2 ≤ M ∧ goodFrom (s.2 + 2) r = true := by
  simp [goodFrom, and_assoc]
theorem goodFrom_mono {b c : Int} {l : List Sp} (h : goodFrom b l = true) (hc : c ≤ b) : goodFrom c l = true := by
  cases l with
  | nil => rfl
  | cons s r =>
    rw [goodFrom_cons] at h ⊢
    exact ⟨by omega, h.2⟩
/-- Is n in one of them? -/
def has (l : List Sp) (n : Int) : Bool := l.any fun s => decide (s.1 ≤ n) && decide (n ≤ s.2)
theorem has_nil (n : Int) : has [] n = false := rfl
theorem has_cons (s : Sp) (r : List Sp) (n : Int) : has (s :: r) n = ((decide (s.1 ≤ n) && decide (n ≤ s.2)) || has r n) := rfl
theorem has_iff {s : Sp} {r : List Sp} {n : Int} : has (s :: r) n = true ↔ (s.1 ≤ n ∧ n ≤ s.2) ∨ has r n = true := by
  rw [has_cons]
  simp
theorem has_append (a b : List Sp) (n : Int) : has (a ++ b) n = (has a n || has b n) := List.any_append
theorem has_lt : ∀ {l : List Sp} {b n : Int}, goodFrom b l = true → n < b → has l n = false
  | [], _, _, _, _ => rfl
  | s :: r, b, n, h, hn => by
    obtain ⟨h1, h2, h3, h4⟩ := goodFrom_cons.1 h
    rw [has_cons, has_lt h4 (by omega)]
    simp
    omega
theorem has_le : ∀ {l : List Sp} {b n : Int}, goodFrom b l = true → has l n = true → b ≤ n ∧ n ≤ M
  | [], _, _, _, hn => by cases hn
  | s :: r, b, n, h, hn => by
    obtain ⟨h1, h2, h3, h4⟩ := goodFrom_cons.1 h
    rw [has_cons, Bool.or_eq_true] at hn
    rcases hn with hn | hn
    · simp at hn; omega
    · have := has_le h4 hn; omega
/-- The numbers of both, as the reference goes: those that touch s fall together with it. -/
def merge : List Sp → Sp → Sp × List Sp
  | [], s => (s, [])
  | a :: r, s => if a.1 ≤ s.2 + 1 then merge r (min s.1 a.1, max s.2 a.2) else (s, a :: r)
def addS : List Sp → Sp → List Sp
  | [], s => [s]
  | a :: r, s => if a.2 + 1 < s.1 then a :: addS r s else (merge (a :: r) s).1 :: (merge (a :: r) s).2
theorem merge_good : ∀ {l : List Sp} {s : Sp} {b c : Int}, goodFrom b l = true → c ≤ s.1 → c ≤ b → s.1 ≤ s.2 → s.2 ≤ M → (l = [] ∨ s.1 ≤ b) ∨ True →
    goodFrom c ((merge l s).1 :: (merge l s).2) = true ∧ ∀ n, has l n = true ∨ (s.1 ≤ n ∧ n ≤ s.2) → has ((merge l s).1 :: (merge l s).2) n = true
  | [], s, b, c, _, h1, _, h2, h3, _ => ⟨goodFrom_cons.2 ⟨h1, h2, h3, rfl⟩, fun n hn => by
      rcases hn with hn | hn
      · cases hn
      · rw [merge, has_cons]; simp [hn]⟩
  | a :: r, s, b, c, h, h1, hcb, h2, h3, _ => by
    obtain ⟨a1, a2, a3, a4⟩ := goodFrom_cons.1 h
    rw [merge]
    split
    · rename_i ht
      obtain ⟨g1, g2⟩ := merge_good (s := (min s.1 a.1, max s.2 a.2)) (c := c) a4 (by simp only; omega) (by omega) (by simp only; omega) (by simp only; omega) (.inr trivial)
      refine ⟨g1, fun n hn => g2 n ?_⟩
      simp only
      rcases hn with hn | hn
      · rw [has_cons, Bool.or_eq_true] at hn
        rcases hn with hn | hn
        · simp at hn; exact .inr (by omega)
        · exact .inl hn
      · exact .inr (by omega)
    · rename_i ht
      refine ⟨goodFrom_cons.2 ⟨h1, h2, h3, goodFrom_cons.2 ⟨by show s.2 + 2 ≤ a.1; omega, a2, a3, a4⟩⟩, fun n hn => ?_⟩
      rw [has_cons]
      rcases hn with hn | hn
      · rw [hn, Bool.or_true]
      · simp [hn]
theorem merge_has : ∀ {l : List Sp} {s : Sp} {b : Int}, goodFrom b l = true → s.1 ≤ s.2 → s.1 ≤ b + (s.2 - s.1) + (b - s.1) + 1 ∨ True → (∀ a ∈ l, s.1 ≤ a.2 + 1) →
    ∀ n, has ((merge l s).1 :: (merge l s).2) n = true → has l n = true ∨ (s.1 ≤ n ∧ n ≤ s.2)
  | [], s, b, _, _, _, _, n, hn => by
    rw [merge, has_cons] at hn
    simp [has_nil] at hn
    exact .inr hn
  | a :: r, s, b, h, h2, _, hall, n, hn => by
    obtain ⟨a1, a2, a3, a4⟩ := goodFrom_cons.1 h
    have ha := hall a (by simp)
    rw [merge] at hn
    split at hn
    · rename_i ht
      have := merge_has (s := (min s.1 a.1, max s.2 a.2)) a4 (by simp only; omega) (.inr trivial) (fun x hx => by
        have := hall x (by simp [hx])
        simp only
        omega) n hn
      rw [has_cons]
      rcases this with h5 | h5
      · exact .inl (by rw [h5, Bool.or_true])
      · simp only at h5
        by_cases hs : s.1 ≤ n ∧ n ≤ s.2
        · exact .inr hs
        · refine .inl ?_
          have : a.1 ≤ n ∧ n ≤ a.2 := by omega
          simp [this]
    · rw [has_cons, Bool.or_eq_true] at hn
      rcases hn with hn | hn
      · simp at hn; exact .inr hn
      · exact .inl hn
theorem good_last : ∀ {l : List Sp} {b : Int}, goodFrom b l = true → ∀ a ∈ l, b ≤ a.1 ∧ a.1 ≤ a.2 ∧ a.2 ≤ M
  | [], _, _, _, h => by cases h
  | s :: r, b, h, a, ha => by
    obtain ⟨a1, a2, a3, a4⟩ := goodFrom_cons.1 h
    rcases List.mem_cons.1 ha with rfl | ha
    · exact ⟨a1, a2, a3⟩
    · have := good_last a4 a ha
      exact ⟨by omega, this.2⟩
theorem add_good : ∀ {l : List Sp} {s : Sp} {b : Int}, goodFrom b l = true → b ≤ s.1 → s.1 ≤ s.2 → s.2 ≤ M →
    goodFrom b (addS l s) = true ∧ ∀ n, has (addS l s) n = (has l n || (decide (s.1 ≤ n) && decide (n ≤ s.2)))
  | [], s, b, _, h1, h2, h3 => ⟨goodFrom_cons.2 ⟨h1, h2, h3, rfl⟩, fun n => by simp [addS, has_cons, has_nil]⟩
  | a :: r, s, b, h, h1, h2, h3 => by
    obtain ⟨a1, a2, a3, a4⟩ := goodFrom_cons.1 h
    rw [addS]
    split
    · rename_i ht
      obtain ⟨g1, g2⟩ := add_good a4 (by omega) h2 h3
      exact ⟨goodFrom_cons.2 ⟨a1, a2, a3, g1⟩, fun n => by rw [has_cons, has_cons, g2, Bool.or_assoc]⟩
    · rename_i ht
      obtain ⟨g1, g2⟩ := merge_good h h1 (Int.le_refl b) h2 h3 (.inr trivial)
      refine ⟨g1, fun n => ?_⟩
      have g3 := merge_has h h2 (.inr trivial) (fun x hx => by
        rcases List.mem_cons.1 hx with rfl | hx
        · omega
        · have := good_last a4 x hx; omega) n
      rw [Bool.eq_iff_iff]
      simp only [Bool.or_eq_true, Bool.and_eq_true, decide_eq_true_eq]
      exact ⟨g3, g2 n⟩
/-- Those that are lo or greater. -/
def from1 (lo : Int) (a : Sp) : List Sp := if lo ≤ a.2 then [(max a.1 lo, a.2)] else []
def fromS (l : List Sp) (lo : Int) : List Sp := l.flatMap (from1 lo)
/-- Is each span of a in one of b? -/
def inside (a b : List Sp) : Bool := a.all fun s => b.any fun t => decide (t.1 ≤ s.1) && decide (s.2 ≤ t.2)
/-- Do a's numbers lie below b's, one between them at least? -/
def ap (a b : Sp) : Bool := decide (a.2 + 1 < b.1)
def Fits (l : List Sp) : Prop := ∀ s ∈ l, (0 ≤ s.1 ∧ s.1 ≤ 18446744073709551615) ∧ (0 ≤ s.2 ∧ s.2 ≤ 18446744073709551615)
theorem Fits.nil : Fits [] := fun _ h => by cases h
theorem Fits.cons {s : Sp} {l : List Sp} (hs : (0 ≤ s.1 ∧ s.1 ≤ 18446744073709551615) ∧ (0 ≤ s.2 ∧ s.2 ≤ 18446744073709551615)) (h : Fits l) : Fits (s :: l) := fun x hx => by
  rcases List.mem_cons.1 hx with rfl | hx
  · exact hs
  · exact h x hx
theorem Fits.get {l : List Sp} (h : Fits l) {k : Nat} (hk : k < l.length) : (0 ≤ (l.getD k (0, 0)).1 ∧ (l.getD k (0, 0)).1 ≤ 18446744073709551615) ∧ (0 ≤ (l.getD k (0, 0)).2 ∧ (l.getD k (0, 0)).2 ≤ 18446744073709551615) := by
  have : l.getD k (0, 0) = l[k] := by simp [List.getD, hk]
  rw [this]
  exact h _ (List.getElem_mem hk)
theorem Fits.of_good {l : List Sp} (h : good l = true) : Fits l := fun s hs => by
  have := good_last h s hs
  unfold M at this
  omega
theorem ok_iff {s : Sp} : ok s = true ↔ s.1 ≤ s.2 ∧ s.2 ≤ 4611686018427387903 := by unfold ok M; simp
theorem ok_not {s : Sp} : ok s = false ↔ ¬ (s.1 ≤ s.2 ∧ s.2 ≤ 4611686018427387903) := by rw [← ok_iff]; simp
theorem ap_iff {a b : Sp} : ap a b = true ↔ a.2 + 1 < b.1 := by unfold ap; simp
theorem ap_not {a b : Sp} : ap a b = false ↔ ¬ a.2 + 1 < b.1 := by unfold ap; simp
/-- The next span of a row. -/
def nextOk (l : List Sp) (k : Nat) : Bool := ok (l.getD k (0, 0)) && (decide (k = 0) || ap (l.getD (k - 1) (0, 0)) (l.getD k (0, 0)))
theorem goodFrom_take : ∀ {l : List Sp} {b : Int} {k : Nat}, k < l.length → goodFrom b (l.take (k + 1)) = (goodFrom b (l.take k) && ok (l.getD k (0, 0)) && (if k = 0 then decide (b ≤ (l.getD k (0, 0)).1) else ap (l.getD (k - 1) (0, 0)) (l.getD k (0, 0))))
  | s :: r, b, 0, _ => by
    simp only [List.take_succ_cons, List.take_zero, goodFrom, List.getD_cons_zero, Bool.and_true, Bool.true_and, if_true, ok]
    cases decide (b ≤ s.1) <;> simp
  | s :: r, b, k + 1, h => by
    have h' : k < r.length := by simpa using h
    rw [List.take_succ_cons, List.take_succ_cons, goodFrom, goodFrom, goodFrom_take h', List.getD_cons_succ, if_neg (by omega : ¬ k + 1 = 0)]
    rcases k with _ | k
    · simp only [Nat.zero_add, Nat.sub_self, List.getD_cons_zero, if_true, List.take_zero, goodFrom, Bool.and_true]
      rw [Bool.eq_iff_iff]
      simp [ap]
      constructor
      · rintro ⟨h1, h2, h3⟩; exact ⟨⟨h1, h2⟩, by omega⟩
      · rintro ⟨⟨h1, h2⟩, h3⟩; exact ⟨h1, h2, by omega⟩
    · rw [if_neg (by omega : ¬ k + 1 = 0), show k + 1 + 1 - 1 = (k + 1 - 1) + 1 by omega, List.getD_cons_succ]
      simp only [Bool.and_assoc]
theorem good_take {l : List Sp} (hf : Fits l) {k : Nat} (h : k < l.length) : good (l.take (k + 1)) = (good (l.take k) && nextOk l k) := by
  unfold good nextOk
  rw [goodFrom_take h, Bool.and_assoc]
  congr 2
  have := (hf.get h).1.1
  split
  · rename_i e
    subst e
    rw [decide_eq_true this]
    rfl
  · rename_i e
    simp [e]
theorem goodFrom_of_take : ∀ {l : List Sp} {b : Int} (k : Nat), goodFrom b l = true → goodFrom b (l.take k) = true
  | l, b, 0, h => rfl
  | [], b, k + 1, h => rfl
  | s :: r, b, k + 1, h => by
    obtain ⟨a1, a2, a3, a4⟩ := goodFrom_cons.1 h
    rw [List.take_succ_cons]
    exact goodFrom_cons.2 ⟨a1, a2, a3, goodFrom_of_take k a4⟩
theorem good_stop {l : List Sp} (hf : Fits l) {k : Nat} (h : k < l.length) (hn : nextOk l k = false) : good l = false := by
  cases hg : good l with
  | false => rfl
  | true =>
    have := goodFrom_of_take (k + 1) hg
    change good (l.take (k + 1)) = true at this
    rw [good_take hf h, hn, Bool.and_false] at this
    cases this
theorem from_len : ∀ (l : List Sp) (lo : Int), (fromS l lo).length ≤ l.length
  | [], _ => Nat.le_refl _
  | a :: r, lo => by
    show (from1 lo a ++ fromS r lo).length ≤ _
    have := from_len r lo
    rw [List.length_append, List.length_cons]
    unfold from1
    split <;> simp only [List.length_singleton, List.length_nil] <;> omega
theorem take_snoc {l : List Sp} {k : Nat} (h : k < l.length) : l.take (k + 1) = l.take k ++ [l.getD k (0, 0)] := by
  rw [List.take_succ_eq_append_getElem h]
  simp [List.getD, h]
theorem drop_cons {l : List Sp} {k : Nat} (h : k < l.length) : l.drop k = l.getD k (0, 0) :: l.drop (k + 1) := by
  rw [List.drop_eq_getElem_cons h]
  simp [List.getD, h]
theorem from_take {l : List Sp} {k : Nat} (h : k < l.length) (lo : Int) : fromS (l.take (k + 1)) lo = fromS (l.take k) lo ++ from1 lo (l.getD k (0, 0)) := by
  rw [take_snoc h]
  simp [fromS]
theorem has_take {l : List Sp} {k : Nat} (h : k < l.length) (n : Int) : has (l.take (k + 1)) n = (has (l.take k) n || (decide ((l.getD k (0, 0)).1 ≤ n) && decide (n ≤ (l.getD k (0, 0)).2))) := by
  rw [take_snoc h, has_append, has_cons, has_nil, Bool.or_false]
theorem has_more {l : List Sp} (k : Nat) (n : Int) (h : has (l.take k) n = true) : has l n = true := by
  rw [← List.take_append_drop k l, has_append, h]
  rfl
/-- Does one span of b hold all of s? -/
def covers (b : List Sp) (s : Sp) : Bool := b.any fun t => decide (t.1 ≤ s.1) && decide (s.2 ≤ t.2)
theorem covers_take {b : List Sp} {j : Nat} (h : j < b.length) (s : Sp) : covers (b.take (j + 1)) s = (covers (b.take j) s || (decide ((b.getD j (0, 0)).1 ≤ s.1) && decide (s.2 ≤ (b.getD j (0, 0)).2))) := by
  rw [take_snoc h]
  simp [covers]
theorem inside_take {a : List Sp} {k : Nat} (h : k < a.length) (b : List Sp) : inside (a.take (k + 1)) b = (inside (a.take k) b && covers b (a.getD k (0, 0))) := by
  rw [take_snoc h]
  simp only [inside, covers, List.all_append, List.all_cons, List.all_nil, Bool.and_true]
theorem inside_stop {a : List Sp} {k : Nat} (h : k < a.length) {b : List Sp} (hc : covers b (a.getD k (0, 0)) = false) : inside a b = false := by
  rw [← List.take_append_drop (k + 1) a]
  have := inside_take h b
  rw [hc, Bool.and_false] at this
  unfold inside at *
  rw [List.all_append, this]
  rfl
theorem good_get {l : List Sp} (h : good l = true) {k : Nat} (hk : k < l.length) : 0 ≤ (l.getD k (0, 0)).1 ∧ (l.getD k (0, 0)).1 ≤ (l.getD k (0, 0)).2 ∧ (l.getD k (0, 0)).2 ≤ 4611686018427387903 := by
  have := good_last h (l.getD k (0, 0)) (by simp [List.getD, hk])
  unfold M at this
  exact this
/-- Where the program stands that adds s0 to the row l: behind k spans, those below, the span that has grown, those above. -/
def AddSt (l : List Sp) (s0 : Sp) (k : Nat) (lb : List Sp) (s : Sp) (la : List Sp) : Prop :=
  0 ≤ s.1 ∧ s.1 ≤ s.2 ∧ s.2 ≤ M ∧ lb.length + la.length ≤ k ∧ goodFrom 0 (l.drop k) = true ∧
    ((la = [] ∧ addS l s0 = lb ++ addS (l.drop k) s) ∨ (addS l s0 = lb ++ s :: (la ++ l.drop k) ∧ goodFrom (s.2 + 2) (l.drop k) = true))
theorem AddSt.start {l : List Sp} {s : Sp} (hg : good l = true) (h0 : 0 ≤ s.1) (h1 : s.1 ≤ s.2) (h2 : s.2 ≤ M) : AddSt l s 0 [] s [] := ⟨h0, h1, h2, Nat.le_refl _, hg, .inl ⟨rfl, rfl⟩⟩
theorem AddSt.below {l : List Sp} {s0 s x : Sp} {k : Nat} {lb la : List Sp} (h : AddSt l s0 k lb s la) (hk : k < l.length) (hx : l.getD k (0, 0) = x) (ha : ap x s = true) : AddSt l s0 (k + 1) (lb ++ [x]) s la := by
  obtain ⟨a1, a2, a3, a4, ag, a5⟩ := h
  rw [ap_iff] at ha
  rw [drop_cons hk, hx] at ag a5
  obtain ⟨g1, g2, g3, g4⟩ := goodFrom_cons.1 ag
  refine ⟨a1, a2, a3, by rw [List.length_append, List.length_singleton]; omega, goodFrom_mono g4 (by omega), ?_⟩
  rcases a5 with ⟨h1, h2⟩ | ⟨h1, h2⟩
  · exact .inl ⟨h1, by rw [h2, addS, if_pos ha, List.append_assoc]; rfl⟩
  · obtain ⟨b1, b2, b3, b4⟩ := goodFrom_cons.1 h2
    omega
theorem AddSt.above {l : List Sp} {s0 s x : Sp} {k : Nat} {lb la : List Sp} (h : AddSt l s0 k lb s la) (hk : k < l.length) (hx : l.getD k (0, 0) = x) (ha : ap s x = true) : AddSt l s0 (k + 1) lb s (la ++ [x]) := by
  obtain ⟨a1, a2, a3, a4, ag, a5⟩ := h
  rw [ap_iff] at ha
  rw [drop_cons hk, hx] at ag a5
  obtain ⟨g1, g2, g3, g4⟩ := goodFrom_cons.1 ag
  refine ⟨a1, a2, a3, by rw [List.length_append, List.length_singleton]; omega, goodFrom_mono g4 (by omega), .inr ⟨?_, goodFrom_mono g4 (by omega)⟩⟩
  rcases a5 with ⟨h1, h2⟩ | ⟨h1, h2⟩
  · rw [h2, h1, addS, if_neg (by omega), merge, if_neg (by omega)]
    rfl
  · rw [h1, List.append_assoc]
    rfl
theorem AddSt.done {l : List Sp} {s0 s : Sp} {k : Nat} {lb la : List Sp} (h : AddSt l s0 k lb s la) (hk : l.length ≤ k) : addS l s0 = lb ++ [s] ++ la := by
  obtain ⟨a1, a2, a3, a4, ag, a5⟩ := h
  rw [List.drop_eq_nil_of_le hk] at a5
  rcases a5 with ⟨h1, h2⟩ | ⟨h1, h2⟩
  · rw [h2, h1, List.append_nil]
    rfl
  · rw [h1, List.append_nil, List.append_assoc]
    rfl
/-- The first j spans of r end below all spans of l from the k-th on. -/
def Past (l r : List Sp) (k j : Nat) : Prop := ∀ i, i < j → ∀ m, k ≤ m → m < l.length → (r.getD i (0, 0)).2 < (l.getD m (0, 0)).2
theorem Past.start (l r : List Sp) (k : Nat) : Past l r k 0 := fun i hi => by omega
theorem Past.next {l r : List Sp} {k j : Nat} (h : Past l r k j) : Past l r (k + 1) j := fun i hi m hm hl => h i hi m (by omega) hl
theorem good_rise : ∀ {l : List Sp} {b : Int}, goodFrom b l = true → ∀ {i m : Nat}, i < m → m < l.length → (l.getD i (0, 0)).2 + 1 < (l.getD m (0, 0)).1
  | [], _, _, i, m, _, hm => by simp at hm
  | s :: r, b, h, 0, m + 1, _, hm => by
    obtain ⟨a1, a2, a3, a4⟩ := goodFrom_cons.1 h
    have hm' : m < r.length := by simpa using hm
    have := good_last a4 (r.getD m (0, 0)) (by simp [List.getD, hm'])
    rw [List.getD_cons_succ, List.getD_cons_zero]
    omega
  | s :: r, b, h, i + 1, m + 1, hi, hm => by
    obtain ⟨a1, a2, a3, a4⟩ := goodFrom_cons.1 h
    rw [List.getD_cons_succ, List.getD_cons_succ]
    exact good_rise a4 (by omega) (by simpa using hm)
theorem Past.step {l r : List Sp} {k j : Nat} (hl : good l = true) (h : Past l r k j) (hk : k < l.length) (hlt : (r.getD j (0, 0)).2 < (l.getD k (0, 0)).2) : Past l r k (j + 1) := fun i hi m hm hml => by
  rcases Nat.lt_or_ge i j with h1 | h1
  · exact h i h1 m hm hml
  · obtain rfl : i = j := by omega
    rcases Nat.lt_or_ge k m with h2 | h2
    · have := good_rise hl h2 hml
      have := good_get hl hml
      omega
    · obtain rfl : k = m := by omega
      exact hlt
theorem covers_iff {b : List Sp} {s : Sp} : covers b s = true ↔ ∃ i, i < b.length ∧ (b.getD i (0, 0)).1 ≤ s.1 ∧ s.2 ≤ (b.getD i (0, 0)).2 := by
  unfold covers
  rw [List.any_eq_true]
  constructor
  · rintro ⟨t, ht, h⟩
    obtain ⟨i, hi, rfl⟩ := List.mem_iff_getElem.1 ht
    refine ⟨i, hi, ?_⟩
    simp at h
    simpa [List.getD, hi] using h
  · rintro ⟨i, hi, h⟩
    refine ⟨b.getD i (0, 0), by simp [List.getD, hi], ?_⟩
    simp only [Bool.and_eq_true, decide_eq_true_eq]
    exact h
theorem covers_end {l r : List Sp} {k j : Nat} (h : Past l r k j) (hk : k < l.length) (hj : r.length ≤ j) : covers r (l.getD k (0, 0)) = false := by
  cases hc : covers r (l.getD k (0, 0)) with
  | false => rfl
  | true =>
    obtain ⟨i, hi, h1, h2⟩ := covers_iff.1 hc
    have := h i (by omega) k (Nat.le_refl _) hk
    omega
theorem covers_here {l r : List Sp} {k j : Nat} (hl : good l = true) (hr : good r = true) (h : Past l r k j) (hk : k < l.length) (hj : j < r.length) (hlt : ¬ (r.getD j (0, 0)).2 < (l.getD k (0, 0)).2) : covers r (l.getD k (0, 0)) = decide ((r.getD j (0, 0)).1 ≤ (l.getD k (0, 0)).1) := by
  rw [Bool.eq_iff_iff, covers_iff, decide_eq_true_eq]
  constructor
  · rintro ⟨i, hi, h1, h2⟩
    rcases Nat.lt_or_ge i j with h3 | h3
    · have := h i h3 k (Nat.le_refl _) hk
      omega
    · rcases Nat.lt_or_ge j i with h4 | h4
      · have := good_rise hr h4 hi
        have := good_get hl hk
        omega
      · obtain rfl : i = j := by omega
        exact h1
  · intro h1
    exact ⟨j, hj, h1, by omega⟩
theorem inside_one {l : List Sp} (h : good l = true) (n : Int) : inside [(n, n)] l = has l n := by
  unfold inside has
  simp only [List.all_cons, List.all_nil, Bool.and_true]
theorem good_one {n : Int} (h : 0 ≤ n) : good [(n, n)] = decide (n ≤ 4611686018427387903) := by
  rw [Bool.eq_iff_iff, decide_eq_true_eq]
  unfold good
  rw [goodFrom_cons]
  unfold M
  exact ⟨fun h => h.2.2.1, fun hn => ⟨h, Int.le_refl _, hn, rfl⟩⟩
theorem has_big {l : List Sp} (h : good l = true) {n : Int} (hn : 4611686018427387903 < n) : has l n = false := by
  cases hh : has l n with
  | false => rfl
  | true =>
    have := has_le h hh
    unfold M at this
    omega
end Go.Proofs.YtkiloaebokkjbaaGreat.SpanPlain
