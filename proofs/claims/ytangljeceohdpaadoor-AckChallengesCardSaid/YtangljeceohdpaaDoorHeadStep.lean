/-
  A packet's fields read one behind the other, up to the first error: the state's steps, and that they come to what bytes are as a packet. Nothing here names a program.
-/
import Derived.Test.YtangljeceohdpaaDoorHeadPlain
namespace Go.Proofs.YtangljeceohdpaaDoor.HeadPlain
set_option linter.unusedVariables false
open Go.Proofs.YtangljeceohdpaaDoor.OctPlain

/-- The bytes left, the error. -/
abbrev St := List Int × Int
def needE (ok : Bool) (er e : Int) : Int := if e = 0 ∧ ok = false then er else e
def numV (s : St) : Int := if s.2 = 0 then (num s.1).1 else 0
def numS (s : St) : St := if s.2 = 0 then (s.1.drop (num s.1).2.1, (num s.1).2.2) else s
def wordV (s : St) : Int := if s.2 = 0 ∧ 8 ≤ s.1.length then val (s.1.take 8) else 0
def wordS (s : St) : St := if s.2 = 0 then (if s.1.length < 8 then (s.1, 2) else (s.1.drop 8, 0)) else s
def takeV (n : Int) (s : St) : List Int := if s.2 = 0 ∧ n ≤ (s.1.length : Int) then s.1.take n.toNat else []
def takeS (n : Int) (s : St) : St := if s.2 = 0 then (if (s.1.length : Int) < n then (s.1, 2) else (s.1.drop n.toNat, 0)) else s
def oneV (s : St) : Int := if s.2 = 0 then s.1.headD 0 else 0
def oneS (s : St) : St := takeS 1 s
def fits (off size : Int) : Bool := decide (0 < size) && decide (size ≤ 1500) && decide (off ≤ M - size)
theorem fits_iff {off size : Int} : fits off size = true ↔ 0 < size ∧ size ≤ 1500 ∧ off ≤ M - size := by
  unfold fits
  simp only [Bool.and_eq_true, decide_eq_true_eq, and_assoc]
def point (e : Int) : Bool := decide (1 ≤ e) && decide (e ≤ 3)
def need (ok : Bool) (er : Int) (s : St) : St := (s.1, needE ok er s.2)
theorem need_err (ok : Bool) (er : Int) (s : St) (h : s.2 ≠ 0) : need ok er s = s := by simp [need, needE, h]
theorem num_errS (s : St) (h : s.2 ≠ 0) : numS s = s := by simp [numS, h]
theorem word_errS (s : St) (h : s.2 ≠ 0) : wordS s = s := by simp [wordS, h]
theorem take_errS (n : Int) (s : St) (h : s.2 ≠ 0) : takeS n s = s := by simp [takeS, h]
def fin (s : St) (d : D) : D × Int := if s.2 ≠ 0 then (zero, s.2) else (d, 0)
theorem fin_err (s : St) (d : D) (h : s.2 ≠ 0) : fin s d = (zero, s.2) := by simp [fin, h]

/-- .. what comes out, from the length on. -/
def t6 (ecn pn least off nonce : Int) (s : St) : D × Int :=
  let n := numV s
  let s1 := need (fits off n) 5 (numS s)
  let s2 := takeS n s1
  let s3 := need (decide ((s2.1.length : Int) = 0)) 3 s2
  fin s3 ⟨pn, least, off, nonce, ecn, takeV n s1⟩
def t5 (ecn pn least off : Int) (s : St) : D × Int := t6 ecn pn least off (wordV s) (wordS s)
def t4 (ecn pn least : Int) (s : St) : D × Int := t5 ecn pn least (numV s) (numS s)
def t3 (ecn pn : Int) (s : St) : D × Int := t4 ecn pn (numV s) (need (decide (numV s ≤ pn)) 5 (numS s))
def t2 (ecn : Int) (s : St) : D × Int := t3 ecn (numV s) (numS s)
def t1 (s : St) : D × Int := t2 (oneV s) (need (point (oneV s)) 5 (oneS s))
def t0 (s : St) : D × Int := t1 (need (decide (oneV s = 1)) 4 (oneS s))

theorem t6_eq (ecn pn least off nonce : Int) (s : St) (hb : Bytes s.1) : t6 ecn pn least off nonce s = if s.2 ≠ 0 then (zero, s.2) else g6 ecn pn least off nonce s.1 := by
  obtain ⟨q, e⟩ := s
  by_cases he : e = 0
  · subst he
    have hbd := num_bd (l := q) hb
    rw [if_neg (by simp)]
    unfold t6 g6
    dsimp only
    have hV : numV (q, 0) = (num q).1 := by simp [numV]
    have hS : numS (q, 0) = (q.drop (num q).2.1, (num q).2.2) := by simp [numS]
    rw [hV, hS]
    by_cases h1 : (num q).2.2 = 0
    · rw [if_neg (by simp [h1]), h1]
      by_cases h2 : fits off (num q).1 = true
      · obtain ⟨f1, f2, f3⟩ := fits_iff.1 h2
        rw [if_neg (by omega)]
        have hn : need (fits off (num q).1) 5 (q.drop (num q).2.1, 0) = (q.drop (num q).2.1, 0) := by simp [need, needE, h2]
        rw [hn]
        generalize q.drop (num q).2.1 = r
        generalize (num q).1 = n at *
        by_cases h3 : (r.length : Int) < n
        · rw [if_pos h3]
          have : takeS n (r, 0) = (r, 2) := by simp [takeS, h3]
          rw [this, need_err _ _ _ (by simp), fin_err _ _ (by simp)]
        · rw [if_neg h3]
          have ht : takeS n (r, 0) = (r.drop n.toNat, 0) := by simp [takeS, h3]
          rw [ht]
          by_cases h4 : n < (r.length : Int)
          · rw [if_pos h4]
            have : need (decide (((r.drop n.toNat).length : Int) = 0)) 3 (r.drop n.toNat, 0) = (r.drop n.toNat, 3) := by
              have : ¬ ((r.drop n.toNat).length : Int) = 0 := by rw [List.length_drop]; omega
              simp only [need, needE, decide_eq_false this]
              simp
            rw [this, fin_err _ _ (by simp)]
          · rw [if_neg h4]
            have : need (decide (((r.drop n.toNat).length : Int) = 0)) 3 (r.drop n.toNat, 0) = (r.drop n.toNat, 0) := by
              have : ((r.drop n.toNat).length : Int) = 0 := by rw [List.length_drop]; omega
              simp only [need, needE, decide_eq_true this]
              simp
            rw [this]
            have hv : takeV n (r, 0) = r := by
              unfold takeV
              rw [if_pos ⟨rfl, by show n ≤ (r.length : Int); omega⟩]
              exact List.take_of_length_le (by show r.length ≤ _; omega)
            rw [hv]
            simp [fin]
      · have hf : ¬ (0 < (num q).1 ∧ (num q).1 ≤ 1500 ∧ off ≤ M - (num q).1) := fun h => h2 (fits_iff.2 h)
        rw [if_pos (by omega)]
        have hn : need (fits off (num q).1) 5 (q.drop (num q).2.1, 0) = (q.drop (num q).2.1, 5) := by simp [need, needE, h2]
        rw [hn, take_errS _ _ (by simp), need_err _ _ _ (by simp), fin_err _ _ (by simp)]
    · have ha : need (fits off (num q).1) 5 (q.drop (num q).2.1, (num q).2.2) = (q.drop (num q).2.1, (num q).2.2) := need_err _ _ _ h1
      rw [if_pos h1, ha, take_errS _ (q.drop (num q).2.1, (num q).2.2) h1, need_err _ _ (q.drop (num q).2.1, (num q).2.2) h1, fin_err (q.drop (num q).2.1, (num q).2.2) _ h1]
  · rw [if_pos he]
    unfold t6
    dsimp only
    rw [num_errS (q, e) he, need_err _ _ (q, e) he, take_errS _ (q, e) he, need_err _ _ (q, e) he, fin_err (q, e) _ he]
theorem numS_bytes {s : St} (h : Bytes s.1) : Bytes (numS s).1 := by unfold numS; split; exact h.drop _; exact h
theorem wordS_bytes {s : St} (h : Bytes s.1) : Bytes (wordS s).1 := by unfold wordS; split; (split; exact h; exact h.drop _); exact h
theorem takeS_bytes {n : Int} {s : St} (h : Bytes s.1) : Bytes (takeS n s).1 := by unfold takeS; split; (split; exact h; exact h.drop _); exact h
theorem t5_eq (ecn pn least off : Int) (s : St) (hb : Bytes s.1) : t5 ecn pn least off s = if s.2 ≠ 0 then (zero, s.2) else g5 ecn pn least off s.1 := by
  obtain ⟨q, e⟩ := s
  unfold t5
  rw [t6_eq _ _ _ _ _ _ (wordS_bytes hb)]
  by_cases he : e = 0
  · subst he
    unfold g5
    by_cases h8 : q.length < 8
    · simp [wordS, h8]
    · have : 8 ≤ q.length := by omega
      simp [wordS, wordV, h8, this]
  · simp [word_errS (q, e) he, he]
theorem t4_eq (ecn pn least : Int) (s : St) (hb : Bytes s.1) : t4 ecn pn least s = if s.2 ≠ 0 then (zero, s.2) else g4 ecn pn least s.1 := by
  obtain ⟨q, e⟩ := s
  unfold t4
  rw [t5_eq _ _ _ _ _ (numS_bytes hb)]
  by_cases he : e = 0
  · subst he
    unfold g4
    simp [numS, numV]
  · simp [num_errS (q, e) he, he]
theorem t3_eq (ecn pn : Int) (s : St) (hb : Bytes s.1) : t3 ecn pn s = if s.2 ≠ 0 then (zero, s.2) else g3 ecn pn s.1 := by
  obtain ⟨q, e⟩ := s
  unfold t3
  rw [t4_eq _ _ _ _ (show Bytes (need _ _ (numS (q, e))).1 from numS_bytes hb)]
  by_cases he : e = 0
  · subst he
    unfold g3
    have hV : numV (q, 0) = (num q).1 := by simp [numV]
    have hS : numS (q, 0) = (q.drop (num q).2.1, (num q).2.2) := by simp [numS]
    rw [hV, hS]
    by_cases h1 : (num q).2.2 = 0
    · by_cases h2 : (num q).1 ≤ pn
      · simp [need, needE, h1, h2, show ¬ pn < (num q).1 by omega]
      · simp [need, needE, h1, h2, show pn < (num q).1 by omega]
    · simp [need, needE, h1]
  · rw [num_errS (q, e) he, need_err _ _ _ he]
    simp [he]
theorem t2_eq (ecn : Int) (s : St) (hb : Bytes s.1) : t2 ecn s = if s.2 ≠ 0 then (zero, s.2) else g2 ecn s.1 := by
  obtain ⟨q, e⟩ := s
  unfold t2
  rw [t3_eq _ _ _ (numS_bytes hb)]
  by_cases he : e = 0
  · subst he
    unfold g2
    simp [numS, numV]
  · simp [num_errS (q, e) he, he]
theorem t0_eq {l : List Int} (hb : Bytes l) : t0 (l, 0) = getData l := by
  unfold t0 t1
  rw [t2_eq _ _ (show Bytes (need _ _ (oneS _)).1 from takeS_bytes (show Bytes (need _ _ (oneS _)).1 from takeS_bytes hb))]
  match l, hb with
  | [], _ => rfl
  | [x], _ =>
    unfold getData
    by_cases hx : x = 1
    · simp [hx, oneS, oneV, takeS, need, needE]
    · simp [hx, oneS, oneV, takeS, need, needE]
  | x :: y :: q, _ =>
    unfold getData
    have e1 : oneV (x :: y :: q, 0) = x := by simp [oneV]
    have e2 : oneS (x :: y :: q, 0) = (y :: q, 0) := by
      unfold oneS takeS
      rw [if_pos rfl, if_neg (by show ¬ ((x :: y :: q).length : Int) < 1; simp only [List.length_cons]; omega)]
      rfl
    have e3 : oneV (y :: q, 0) = y := by simp [oneV]
    have e4 : oneS (y :: q, 0) = (q, 0) := by
      unfold oneS takeS
      rw [if_pos rfl, if_neg (by show ¬ ((y :: q).length : Int) < 1; simp only [List.length_cons]; omega)]
      rfl
    rw [e1, e2]
    by_cases hx : x = 1
    · have : need (decide (x = 1)) 4 (y :: q, 0) = (y :: q, 0) := by simp [need, needE, hx]
      rw [this, e3, e4]
      dsimp only
      rw [if_neg (show ¬ x ≠ 1 by simp [hx])]
      by_cases hy : 1 ≤ y ∧ y ≤ 3
      · have : need (point y) 5 (q, 0) = (q, 0) := by simp [need, needE, point, hy]
        rw [this, if_neg (show ¬ (y < 1 ∨ 3 < y) by omega)]
        simp
      · rw [if_pos (show y < 1 ∨ 3 < y by omega)]
        have hp : point y = false := by unfold point; rw [Bool.and_eq_false_iff, decide_eq_false_iff_not, decide_eq_false_iff_not]; omega
        have : need (point y) 5 (q, 0) = (q, 5) := by simp [need, needE, hp]
        rw [this]
        simp
    · dsimp only
      rw [if_pos hx]
      have : need (decide (x = 1)) 4 (y :: q, 0) = (y :: q, 4) := by simp [need, needE, hx]
      rw [this, show oneS (y :: q, 4) = (y :: q, 4) from take_errS _ _ (by simp), need_err _ _ (y :: q, 4) (by simp)]
      simp
theorem numS_len (s : St) : (numS s).1.length ≤ s.1.length := by
  unfold numS
  split
  · simp only [List.length_drop]; omega
  · exact Nat.le_refl _
theorem wordS_len (s : St) : (wordS s).1.length ≤ s.1.length := by
  unfold wordS
  split
  · split
    · exact Nat.le_refl _
    · simp only [List.length_drop]; omega
  · exact Nat.le_refl _
theorem takeS_len (n : Int) (s : St) : (takeS n s).1.length ≤ s.1.length := by
  unfold takeS
  split
  · split
    · exact Nat.le_refl _
    · simp only [List.length_drop]; omega
  · exact Nat.le_refl _
theorem numV_bd {s : St} (h : Bytes s.1) : 0 ≤ numV s ∧ numV s ≤ 4611686018427387903 := by
  unfold numV
  split
  · exact num_bd h
  · omega
theorem wordV_bd {s : St} (h : Bytes s.1) : 0 ≤ wordV s ∧ wordV s ≤ 18446744073709551615 := by
  unfold wordV
  split
  · exact val_bd8 (h.take 8) (by rw [List.length_take]; omega)
  · omega
theorem oneV_bd {s : St} (h : Bytes s.1) : 0 ≤ oneV s ∧ oneV s ≤ 255 := by
  obtain ⟨l, e⟩ := s
  unfold oneV
  split
  · cases l with
    | nil => simp
    | cons x r => exact h.head
  · omega
theorem takeV_bytes {n : Int} {s : St} (h : Bytes s.1) : Bytes (takeV n s) := by
  unfold takeV
  split
  · exact h.take _
  · exact Bytes.nil
/-- Eight bytes as a number, how many were read, the error. -/
def wrd (q : List Int) : Int × Nat × Int := if q.length < 8 then (0, 0, 2) else (val (q.take 8), 8, 0)
theorem wrd_len (q : List Int) : (wrd q).2.1 ≤ q.length := by
  unfold wrd
  split
  · exact Nat.zero_le _
  · show 8 ≤ q.length
    omega
theorem wrd_bd {q : List Int} (h : Bytes q) : 0 ≤ (wrd q).1 ∧ (wrd q).1 ≤ 18446744073709551615 := by
  unfold wrd
  split
  · exact ⟨Int.le_refl _, by decide⟩
  · exact val_bd8 (h.take 8) (by rw [List.length_take]; omega)
/-- What bytes are as a packet, by places. -/
theorem get_at {l : List Int} {x y : Int} {q : List Int} (hl : l = x :: y :: q) {pn least off nonce size e1 e2 e3 e4 e5 : Int} {t1 t2 t3 t4 t5 k1 k2 k3 k4 k5 : Nat}
    (h1 : num (l.drop 2) = (pn, k1, e1)) (u1 : t1 = 2 + k1) (h2 : num (l.drop t1) = (least, k2, e2)) (u2 : t2 = t1 + k2) (h3 : num (l.drop t2) = (off, k3, e3)) (u3 : t3 = t2 + k3)
    (h4 : wrd (l.drop t3) = (nonce, k4, e4)) (u4 : t4 = t3 + k4) (h5 : num (l.drop t4) = (size, k5, e5)) (u5 : t5 = t4 + k5) (hx : x = 1) (hy : 1 ≤ y ∧ y ≤ 3) :
    getData l = if e1 ≠ 0 then (zero, e1) else if e2 ≠ 0 then (zero, e2) else if pn < least then (zero, 5) else if e3 ≠ 0 then (zero, e3) else if e4 ≠ 0 then (zero, e4) else if e5 ≠ 0 then (zero, e5)
      else if size < 1 ∨ 1500 < size ∨ M - size < off then (zero, 5) else if ((l.drop t5).length : Int) < size then (zero, 2) else if size < ((l.drop t5).length : Int) then (zero, 3) else (⟨pn, least, off, nonce, y, l.drop t5⟩, 0) := by
  have hg : getData l = g2 y (l.drop 2) := by
    rw [hl]
    unfold getData
    dsimp only
    rw [if_neg (by simp [hx]), if_neg (by omega)]
    rfl
  rw [hg]
  unfold g2 g3 g4
  simp only [h1, List.drop_drop, ← u1, h2, ← u2, h3, ← u3]
  by_cases c1 : e1 = 0
  · by_cases c2 : e2 = 0
    · by_cases c : pn < least
      · simp [c1, c2, c]
      · by_cases c3 : e3 = 0
        · have hw : g5 y pn least off (l.drop t3) = if e4 ≠ 0 then (zero, e4) else g6 y pn least off nonce (l.drop t4) := by
            unfold g5
            unfold wrd at h4
            split at h4
            · rename_i h8
              rw [if_pos h8]
              injection h4 with a1 a2
              injection a2 with a2 a3
              simp [← a3]
            · rename_i h8
              rw [if_neg h8]
              injection h4 with a1 a2
              injection a2 with a2 a3
              rw [if_neg (by simp [← a3]), a1, List.drop_drop, a2, ← u4]
          simp only [c1, c2, c3, c, ne_eq, not_true_eq_false, if_false]
          rw [hw]
          unfold g6
          simp only [h5, List.drop_drop, ← u5]
        · simp [c1, c2, c3, c]
    · simp [c1, c2]
  · simp [c1]
end Go.Proofs.YtangljeceohdpaaDoor.HeadPlain
