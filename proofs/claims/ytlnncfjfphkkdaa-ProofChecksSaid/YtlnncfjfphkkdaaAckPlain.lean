/-
  Acknowledgments as bytes: plain facts. Nothing here names a program.
-/
import Derived.Test.YtlnncfjfphkkdaaOctPlain
import Derived.Test.YtlnncfjfphkkdaaSpanPlain
import Derived.Test.YtlnncfjfphkkdaaHeadPlain
set_option linter.unusedSimpArgs false
set_option linter.unusedVariables false
namespace Go.Proofs.Ytlnncfjfphkkdaa.AckPlain
set_option linter.unusedVariables false
open Go.Proofs.Ytlnncfjfphkkdaa.OctPlain Go.Proofs.Ytlnncfjfphkkdaa.SpanPlain
open Go.Proofs.Ytlnncfjfphkkdaa.HeadPlain (take_app)

/-- An acknowledgment. -/
structure K where
  spans : List Sp
  marked : List Sp
  trigger : Int
  xor : Int
  parity : Bool
def zero : K := ⟨[], [], 0, 0, false⟩
/-- A row's numbers as bytes, from the least value on that its first one may have. -/
def putSp : Int → List Sp → List Int
  | _, [] => []
  | low, s :: r => put (s.1 - low) ++ (put (s.2 - s.1) ++ putSp (s.2 + 2) r)
def putRow (l : List Sp) : List Int := (l.length : Int) :: putSp 0 l
/-- So many spans out of bytes: the spans, how many bytes they took, the error. -/
def getSp : Nat → Int → List Int → List Sp × Nat × Int
  | 0, _, _ => ([], 0, 0)
  | n + 1, low, q =>
    if (num q).2.2 ≠ 0 then ([], 0, (num q).2.2)
    else if SpanPlain.M < low ∨ SpanPlain.M - low < (num q).1 then ([], 0, 5)
    else if (num (q.drop (num q).2.1)).2.2 ≠ 0 then ([], 0, (num (q.drop (num q).2.1)).2.2)
    else if SpanPlain.M - (low + (num q).1) < (num (q.drop (num q).2.1)).1 then ([], 0, 5)
    else if (getSp n (low + (num q).1 + (num (q.drop (num q).2.1)).1 + 2) ((q.drop (num q).2.1).drop (num (q.drop (num q).2.1)).2.1)).2.2 ≠ 0 then ([], 0, (getSp n (low + (num q).1 + (num (q.drop (num q).2.1)).1 + 2) ((q.drop (num q).2.1).drop (num (q.drop (num q).2.1)).2.1)).2.2)
    else ((low + (num q).1, low + (num q).1 + (num (q.drop (num q).2.1)).1) :: (getSp n (low + (num q).1 + (num (q.drop (num q).2.1)).1 + 2) ((q.drop (num q).2.1).drop (num (q.drop (num q).2.1)).2.1)).1,
      (num q).2.1 + ((num (q.drop (num q).2.1)).2.1 + (getSp n (low + (num q).1 + (num (q.drop (num q).2.1)).1 + 2) ((q.drop (num q).2.1).drop (num (q.drop (num q).2.1)).2.1)).2.1), 0)
theorem getSp_put : ∀ {l : List Sp} {low : Int} (more : List Int), goodFrom low l = true → 0 ≤ low → getSp l.length low (putSp low l ++ more) = (l, (putSp low l).length, 0)
  | [], _, _, _, _ => rfl
  | s :: r, low, more, h, h0 => by
    obtain ⟨a1, a2, a3, a4⟩ := goodFrom_cons.1 h
    unfold SpanPlain.M at a3
    have e1 : num (putSp low (s :: r) ++ more) = (s.1 - low, (put (s.1 - low)).length, 0) := by
      rw [putSp, List.append_assoc, num_put _ (by omega) (by omega)]
    have e2 : (putSp low (s :: r) ++ more).drop (put (s.1 - low)).length = put (s.2 - s.1) ++ (putSp (s.2 + 2) r ++ more) := by
      rw [putSp, List.append_assoc, List.drop_left, List.append_assoc]
    have e3 : num (put (s.2 - s.1) ++ (putSp (s.2 + 2) r ++ more)) = (s.2 - s.1, (put (s.2 - s.1)).length, 0) := num_put _ (by omega) (by omega)
    have ih := getSp_put more a4 (by omega)
    rw [List.length_cons, getSp]
    simp only [e1, e2, e3, List.drop_left, show low + (s.1 - low) = s.1 by omega, show s.1 + (s.2 - s.1) = s.2 by omega, ih]
    rw [if_neg (by simp), if_neg (by unfold SpanPlain.M; omega), if_neg (by simp), if_neg (by unfold SpanPlain.M; omega), if_neg (by simp)]
    simp only [putSp, List.length_append]
theorem getSp_cut : ∀ {l : List Sp} {low : Int}, goodFrom low l = true → 0 ≤ low → ∀ {c : Nat}, c < (putSp low l).length → getSp l.length low ((putSp low l).take c) = ([], 0, 2)
  | [], _, _, _, _, hc => by simp [putSp] at hc
  | s :: r, low, h, h0, c, hc => by
    obtain ⟨a1, a2, a3, a4⟩ := goodFrom_cons.1 h
    unfold SpanPlain.M at a3
    rw [putSp] at hc ⊢
    rw [List.length_append, List.length_append] at hc
    rw [take_app, List.length_cons]
    split
    · rename_i h1
      rw [getSp, num_cut (by omega) (by omega) h1, if_pos (by simp)]
    · rename_i h1
      rw [take_app]
      have e1 : ∀ X, num (put (s.1 - low) ++ X) = (s.1 - low, (put (s.1 - low)).length, 0) := fun X => num_put _ (by omega) (by omega)
      split
      · rename_i h2
        have e2 := num_cut (n := s.2 - s.1) (by omega) (by omega) h2
        rw [getSp]
        simp only [e1, List.drop_left, e2]
        rw [if_neg (by simp), if_neg (by unfold SpanPlain.M; omega), if_pos (by simp)]
      · rename_i h2
        have e2 : ∀ X, num (put (s.2 - s.1) ++ X) = (s.2 - s.1, (put (s.2 - s.1)).length, 0) := fun X => num_put _ (by omega) (by omega)
        have ih := getSp_cut a4 (by omega) (c := c - (put (s.1 - low)).length - (put (s.2 - s.1)).length) (by omega)
        rw [getSp]
        simp only [e1, e2, List.drop_left, show low + (s.1 - low) = s.1 by omega, show s.1 + (s.2 - s.1) = s.2 by omega, ih]
        rw [if_neg (by simp), if_neg (by unfold SpanPlain.M; omega), if_neg (by simp), if_neg (by unfold SpanPlain.M; omega), if_pos (by simp)]
theorem getSp_one : ∀ {n : Nat} {low : Int} {q : List Int} {l : List Sp} {k : Nat}, Bytes q → 0 ≤ low → getSp n low q = (l, k, 0) → goodFrom low l = true ∧ l.length = n ∧ putSp low l = q.take k ∧ k ≤ q.length
  | 0, low, q, l, k, _, _, h => by
    rw [getSp] at h
    cases h
    exact ⟨rfl, rfl, by simp [putSp], Nat.zero_le _⟩
  | n + 1, low, q, l, k, hb, h0, h => by
    rw [getSp] at h
    split at h
    · rename_i h1
      exact absurd (congrArg (fun x => x.2.2) h) h1
    · rename_i h1
      obtain ⟨e1, e2, e3, e4⟩ := num_one (n := (num q).1) (k := (num q).2.1) hb (by rw [← show (num q).2.2 = 0 by omega])
      generalize (num q).1 = x at *
      generalize (num q).2.1 = kx at *
      have hb2 := hb.drop kx
      split at h
      · cases congrArg (fun x => x.2.2) h
      · rename_i h2
        unfold SpanPlain.M at h2
        split at h
        · rename_i h3
          exact absurd (congrArg (fun x => x.2.2) h) h3
        · rename_i h3
          obtain ⟨f1, f2, f3, f4⟩ := num_one (n := (num (q.drop kx)).1) (k := (num (q.drop kx)).2.1) hb2 (by rw [← show (num (q.drop kx)).2.2 = 0 by omega])
          generalize (num (q.drop kx)).1 = y at *
          generalize (num (q.drop kx)).2.1 = ky at *
          have hb3 := hb2.drop ky
          split at h
          · cases congrArg (fun x => x.2.2) h
          · rename_i h4
            unfold SpanPlain.M at h4
            split at h
            · rename_i h5
              exact absurd (congrArg (fun x => x.2.2) h) h5
            · rename_i h5
              have h5' : (getSp n (low + x + y + 2) ((q.drop kx).drop ky)).2.2 = 0 := by omega
              obtain ⟨g1, g2, g3, g4⟩ := getSp_one (n := n) (low := low + x + y + 2) (q := (q.drop kx).drop ky) (l := (getSp n (low + x + y + 2) ((q.drop kx).drop ky)).1) (k := (getSp n (low + x + y + 2) ((q.drop kx).drop ky)).2.1) hb3 (by omega) (by rw [← h5'])
              generalize (getSp n (low + x + y + 2) ((q.drop kx).drop ky)).1 = r at *
              generalize (getSp n (low + x + y + 2) ((q.drop kx).drop ky)).2.1 = kr at *
              cases h
              rw [List.length_drop] at f2
              rw [List.length_drop, List.length_drop] at g4
              refine ⟨goodFrom_cons.2 ⟨by simp only; omega, by simp only; omega, by unfold SpanPlain.M; simp only; omega, g1⟩, by rw [List.length_cons, g2], ?_, by omega⟩
              rw [putSp]
              simp only
              rw [show low + x - low = x by omega, show low + x + y - (low + x) = y by omega, e1, f1, g3]
              rw [← List.take_add, ← List.take_add]
def getRow (least : Int) : List Int → List Sp × Nat × Int
  | [] => ([], 0, 2)
  | x :: q => if x < least ∨ 32 < x then ([], 0, 5) else if (getSp x.toNat 0 q).2.2 ≠ 0 then ([], 0, (getSp x.toNat 0 q).2.2) else ((getSp x.toNat 0 q).1, 1 + (getSp x.toNat 0 q).2.1, 0)
theorem getRow_put {l : List Sp} {least : Int} (more : List Int) (h : good l = true) (h1 : least ≤ (l.length : Int)) (h2 : (l.length : Int) ≤ 32) : getRow least (putRow l ++ more) = (l, (putRow l).length, 0) := by
  unfold putRow
  rw [List.cons_append, getRow, if_neg (by omega), show ((l.length : Int)).toNat = l.length by omega, getSp_put more h (Int.le_refl 0), if_neg (by simp), List.length_cons, Nat.add_comm]
theorem getRow_cut {l : List Sp} {least : Int} (h : good l = true) (h1 : least ≤ (l.length : Int)) (h2 : (l.length : Int) ≤ 32) {c : Nat} (hc : c < (putRow l).length) : getRow least ((putRow l).take c) = ([], 0, 2) := by
  unfold putRow at hc ⊢
  rw [List.length_cons] at hc
  rcases c with _ | c
  · rfl
  · rw [List.take_succ_cons, getRow, if_neg (by omega), show ((l.length : Int)).toNat = l.length by omega, getSp_cut h (Int.le_refl 0) (by omega), if_pos (by simp)]
theorem getRow_one {least : Int} {q : List Int} {l : List Sp} {k : Nat} (hb : Bytes q) (h : getRow least q = (l, k, 0)) : good l = true ∧ least ≤ (l.length : Int) ∧ (l.length : Int) ≤ 32 ∧ putRow l = q.take k ∧ k ≤ q.length := by
  cases q with
  | nil => cases congrArg (fun x => x.2.2) h
  | cons x q =>
    rw [getRow] at h
    split at h
    · cases congrArg (fun x => x.2.2) h
    · rename_i h1
      split at h
      · rename_i h2
        exact absurd (congrArg (fun x => x.2.2) h) h2
      · rename_i h2
        have hx := hb.head
        obtain ⟨g1, g2, g3, g4⟩ := getSp_one (n := x.toNat) (q := q) (l := (getSp x.toNat 0 q).1) (k := (getSp x.toNat 0 q).2.1) hb.tail (Int.le_refl 0) (Prod.ext rfl (Prod.ext rfl (by simp only; omega)))
        cases h
        refine ⟨g1, by omega, by omega, ?_, by rw [List.length_cons]; omega⟩
        rw [Nat.add_comm, List.take_succ_cons, ← g3]
        unfold putRow
        rw [show ((getSp x.toNat 0 q).1.length : Int) = x by omega]
def byteOf (b : Bool) : Int := if b then 1 else 0
def q5 (parity : Bool) : List Int := [byteOf parity]
def q4 (xor : Int) (parity : Bool) : List Int := be 8 xor ++ q5 parity
def q3 (trigger xor : Int) (parity : Bool) : List Int := be 8 trigger ++ q4 xor parity
def q2 (marked : List Sp) (trigger xor : Int) (parity : Bool) : List Int := putRow marked ++ q3 trigger xor parity
def q1 (spans marked : List Sp) (trigger xor : Int) (parity : Bool) : List Int := putRow spans ++ q2 marked trigger xor parity
/-- An acknowledgment's bytes. -/
def putAck (a : K) : List Int := 2 :: q1 a.spans a.marked a.trigger a.xor a.parity
def h5 (spans marked : List Sp) (trigger xor : Int) : List Int → K × Int
  | [] => (zero, 2)
  | x :: r => if 1 < x then (zero, 5) else if r ≠ [] then (zero, 3) else if inside marked spans then (⟨spans, marked, trigger, xor, decide (x = 1)⟩, 0) else (zero, 5)
def h4 (spans marked : List Sp) (trigger : Int) (q : List Int) : K × Int := if q.length < 8 then (zero, 2) else h5 spans marked trigger (val (q.take 8)) (q.drop 8)
def h3 (spans marked : List Sp) (q : List Int) : K × Int := if q.length < 8 then (zero, 2) else h4 spans marked (val (q.take 8)) (q.drop 8)
def h2 (spans : List Sp) (q : List Int) : K × Int := if (getRow 0 q).2.2 ≠ 0 then (zero, (getRow 0 q).2.2) else h3 spans (getRow 0 q).1 (q.drop (getRow 0 q).2.1)
def h1 (q : List Int) : K × Int := if (getRow 1 q).2.2 ≠ 0 then (zero, (getRow 1 q).2.2) else h2 (getRow 1 q).1 (q.drop (getRow 1 q).2.1)
/-- What bytes are as an acknowledgment, or the error. -/
def getAck : List Int → K × Int
  | [] => (zero, 2)
  | x :: q => if x ≠ 2 then (zero, 4) else h1 q
/-- An acknowledgment that may be. -/
def may (a : K) : Bool := decide (1 ≤ (a.spans.length : Int)) && decide ((a.spans.length : Int) ≤ 32) && decide ((a.marked.length : Int) ≤ 32) && good a.spans && good a.marked && inside a.marked a.spans
theorem may_iff {a : K} : may a = true ↔ 1 ≤ (a.spans.length : Int) ∧ (a.spans.length : Int) ≤ 32 ∧ (a.marked.length : Int) ≤ 32 ∧ good a.spans = true ∧ good a.marked = true ∧ inside a.marked a.spans = true := by
  unfold may
  simp only [Bool.and_eq_true, decide_eq_true_eq, and_assoc]
def Fit (a : K) : Prop := (0 ≤ a.trigger ∧ a.trigger ≤ 18446744073709551615) ∧ 0 ≤ a.xor ∧ a.xor ≤ 18446744073709551615
theorem byte_is (b : Bool) : decide (byteOf b = 1) = b := by cases b <;> rfl
theorem byte_bd (b : Bool) : 0 ≤ byteOf b ∧ byteOf b ≤ 1 := by cases b <;> decide
theorem eight_take {n : Int} (n0 : 0 ≤ n) (n1 : n ≤ 18446744073709551615) (X : List Int) : ¬ (be 8 n ++ X).length < 8 ∧ val ((be 8 n ++ X).take 8) = n ∧ (be 8 n ++ X).drop 8 = X := by
  have hl := be_len 8 n
  refine ⟨by rw [List.length_append, hl]; omega, ?_, ?_⟩
  · rw [List.take_append_of_le_length (by omega), List.take_of_length_le (by omega), val_be, show n % 256 ^ 8 = n from Int.emod_eq_of_lt n0 (by omega)]
  · rw [List.drop_append_of_le_length (by omega), List.drop_eq_nil_of_le (by omega), List.nil_append]
theorem get_put {a : K} (hm : may a = true) (hf : Fit a) (more : List Int) : getAck (putAck a ++ more) = if more = [] then (a, 0) else (zero, 3) := by
  obtain ⟨m1, m2, m3, m4, m5, m6⟩ := may_iff.1 hm
  obtain ⟨⟨f1, f2⟩, f3, f4⟩ := hf
  obtain ⟨t1, t2, t3⟩ := eight_take f1 f2 (q4 a.xor a.parity ++ more)
  obtain ⟨x1, x2, x3⟩ := eight_take f3 f4 (q5 a.parity ++ more)
  have hp := byte_bd a.parity
  unfold putAck q1 q2 q3
  unfold q4 at t1 t2 t3 ⊢
  simp only [List.cons_append, List.append_assoc] at t1 t2 t3 ⊢
  rw [getAck, if_neg (by simp), h1, getRow_put _ m4 m1 m2]
  simp only [ne_eq, not_true_eq_false, if_false, List.drop_left]
  rw [h2, getRow_put _ m5 (by omega) m3]
  simp only [ne_eq, not_true_eq_false, if_false, List.drop_left]
  rw [h3, if_neg t1, t2, t3, h4, if_neg x1, x2, x3, q5, List.cons_append, List.nil_append, h5, if_neg (by omega)]
  cases more with
  | nil => rw [if_neg (by simp), if_pos m6, if_pos rfl, byte_is]
  | cons x r => rw [if_pos (by simp), if_neg (by simp)]
theorem get_cut {a : K} (hm : may a = true) (hf : Fit a) {c : Nat} (hc : c < (putAck a).length) : getAck ((putAck a).take c) = (zero, 2) := by
  obtain ⟨m1, m2, m3, m4, m5, m6⟩ := may_iff.1 hm
  obtain ⟨⟨f1, f2⟩, f3, f4⟩ := hf
  have l1 := be_len 8 a.trigger
  have l2 := be_len 8 a.xor
  unfold putAck at hc ⊢
  rw [List.length_cons] at hc
  rcases c with _ | c
  · rfl
  rw [List.take_succ_cons, getAck, if_neg (by simp), h1]
  unfold q1 at hc ⊢
  rw [List.length_append] at hc
  rw [take_app]
  split
  · rename_i hA
    rw [getRow_cut m4 m1 m2 hA, if_pos (by simp)]
  · rename_i hA
    rw [getRow_put _ m4 m1 m2]
    simp only [ne_eq, not_true_eq_false, if_false, List.drop_left]
    rw [h2]
    unfold q2 at hc ⊢
    rw [List.length_append] at hc
    rw [take_app]
    split
    · rename_i hB
      rw [getRow_cut m5 (by omega) m3 hB, if_pos (by simp)]
    · rename_i hB
      rw [getRow_put _ m5 (by omega) m3]
      simp only [ne_eq, not_true_eq_false, if_false, List.drop_left]
      rw [h3]
      unfold q3 q4 q5 at hc ⊢
      rw [List.length_append, List.length_append, l1, l2, List.length_singleton] at hc
      rw [take_app, l1]
      split
      · rw [if_pos (by rw [List.length_take]; omega)]
      · rename_i hC
        obtain ⟨t1, t2, t3⟩ := eight_take f1 f2 ((be 8 a.xor ++ [byteOf a.parity]).take (c - (putRow a.spans).length - (putRow a.marked).length - 8))
        rw [if_neg t1, t2, t3, h4, take_app, l2]
        split
        · rw [if_pos (by rw [List.length_take]; omega)]
        · rename_i hD
          have hz : c - (putRow a.spans).length - (putRow a.marked).length - 8 - 8 = 0 := by omega
          rw [hz, List.take_zero]
          obtain ⟨x1, x2, x3⟩ := eight_take f3 f4 []
          rw [if_neg x1, x2, x3, h5]
theorem get_one {l : List Int} (hb : Bytes l) {a : K} (h : getAck l = (a, 0)) : l = putAck a ∧ may a = true ∧ Fit a := by
  cases l with
  | nil => cases congrArg Prod.snd h
  | cons x q =>
    rw [getAck] at h
    split at h
    · cases congrArg Prod.snd h
    rename_i hx
    rw [h1] at h
    split at h
    · rename_i hy
      exact absurd (congrArg Prod.snd h) hy
    rename_i hy
    obtain ⟨a1, a2, a3, a4, a5⟩ := getRow_one (least := 1) (q := q) (l := (getRow 1 q).1) (k := (getRow 1 q).2.1) hb.tail (Prod.ext rfl (Prod.ext rfl (by simp only; omega)))
    generalize (getRow 1 q).1 = sp at *
    generalize (getRow 1 q).2.1 = ka at *
    have hb2 := hb.tail.drop ka
    rw [h2] at h
    split at h
    · rename_i hz
      exact absurd (congrArg Prod.snd h) hz
    rename_i hz
    obtain ⟨b1, b2, b3, b4, b5⟩ := getRow_one (least := 0) (q := q.drop ka) (l := (getRow 0 (q.drop ka)).1) (k := (getRow 0 (q.drop ka)).2.1) hb2 (Prod.ext rfl (Prod.ext rfl (by simp only; omega)))
    generalize (getRow 0 (q.drop ka)).1 = mk at *
    generalize (getRow 0 (q.drop ka)).2.1 = kb at *
    have hb3 := hb2.drop kb
    rw [h3] at h
    split at h
    · cases congrArg Prod.snd h
    rename_i hl1
    rw [h4] at h
    split at h
    · cases congrArg Prod.snd h
    rename_i hl2
    have v1 := val_bd8 (hb3.take 8) (by rw [List.length_take]; omega)
    have v2 := val_bd8 ((hb3.drop 8).take 8) (by rw [List.length_take]; omega)
    have w1 := be_val (hb3.take 8)
    have w2 := be_val ((hb3.drop 8).take 8)
    rw [show (((q.drop ka).drop kb).take 8).length = 8 by rw [List.length_take]; omega] at w1
    rw [show ((((q.drop ka).drop kb).drop 8).take 8).length = 8 by rw [List.length_take]; omega] at w2
    generalize hq5 : ((((q.drop ka).drop kb).drop 8).drop 8) = Q at *
    have hb5 : Bytes Q := by rw [← hq5]; exact (hb3.drop 8).drop 8
    cases Q with
    | nil => cases congrArg Prod.snd h
    | cons z r =>
      rw [h5] at h
      split at h
      · cases congrArg Prod.snd h
      rename_i hz1
      split at h
      · cases congrArg Prod.snd h
      rename_i hz2
      split at h
      · rename_i hin
        have hd := congrArg Prod.fst h
        simp only at hd
        subst hd
        have hr : r = [] := by simpa using hz2
        subst hr
        have hzb := hb5.head
        refine ⟨?_, may_iff.2 ⟨a2, a3, b3, a1, b1, hin⟩, v1, v2⟩
        unfold putAck q1 q2 q3 q4 q5
        simp only
        rw [w1, w2, a4, b4, show byteOf (decide (z = 1)) = z by
          unfold byteOf
          by_cases h1 : z = 1
          · simp [h1]
          · simp [h1]; omega, show x = 2 by omega, ← hq5, List.take_append_drop, List.take_append_drop, List.take_append_drop, List.take_append_drop]
      · cases congrArg Prod.snd h
theorem put_sp_bytes : ∀ (l : List Sp) (low : Int), Bytes (putSp low l)
  | [], _ => Bytes.nil
  | s :: r, low => (put_bytes _).append ((put_bytes _).append (put_sp_bytes r _))
theorem put_sp_len : ∀ (l : List Sp) (low : Int), (putSp low l).length ≤ 16 * l.length
  | [], _ => Nat.zero_le _
  | s :: r, low => by
    have := put_sp_len r (s.2 + 2)
    have a1 := put_len (s.1 - low)
    have a2 := put_len (s.2 - s.1)
    have b1 := size_bd (s.1 - low)
    have b2 := size_bd (s.2 - s.1)
    rw [putSp, List.length_append, List.length_append, List.length_cons]
    omega
theorem put_ack_bytes {a : K} (h : may a = true) : Bytes (putAck a) := by
  obtain ⟨m1, m2, m3, m4⟩ := may_iff.1 h
  have hp := byte_bd a.parity
  unfold putAck q1 q2 q3 q4 q5 putRow
  exact Bytes.cons (by omega) ((Bytes.cons (by omega) (put_sp_bytes _ _)).append ((Bytes.cons (by omega) (put_sp_bytes _ _)).append ((be_bytes 8 _).append ((be_bytes 8 _).append (Bytes.cons (by omega) Bytes.nil)))))
end Go.Proofs.Ytlnncfjfphkkdaa.AckPlain
