/-
  Packets as bytes: plain facts. Nothing here names a program.
-/
import Derived.Test.YtlnncfjfphkkdaaOctPlain
set_option linter.unusedSimpArgs false
set_option linter.unusedVariables false
namespace Go.Proofs.Ytlnncfjfphkkdaa.HeadPlain
set_option linter.unusedVariables false
open Go.Proofs.Ytlnncfjfphkkdaa.OctPlain

/-- A packet. -/
structure D where
  pn : Int
  least : Int
  off : Int
  nonce : Int
  ecn : Int
  body : List Int
def zero : D := ⟨0, 0, 0, 0, 0, []⟩
def M : Int := 4611686018427387903
def p6 (body : List Int) : List Int := put body.length ++ body
def p5 (nonce : Int) (body : List Int) : List Int := be 8 nonce ++ p6 body
def p4 (off nonce : Int) (body : List Int) : List Int := put off ++ p5 nonce body
def p3 (least off nonce : Int) (body : List Int) : List Int := put least ++ p4 off nonce body
def p2 (pn least off nonce : Int) (body : List Int) : List Int := put pn ++ p3 least off nonce body
/-- A packet's bytes. -/
def putData (d : D) : List Int := 1 :: d.ecn :: p2 d.pn d.least d.off d.nonce d.body
def g6 (ecn pn least off nonce : Int) (q : List Int) : D × Int :=
  if (num q).2.2 ≠ 0 then (zero, (num q).2.2) else if (num q).1 < 1 ∨ 1500 < (num q).1 ∨ M - (num q).1 < off then (zero, 5)
  else if ((q.drop (num q).2.1).length : Int) < (num q).1 then (zero, 2) else if (num q).1 < ((q.drop (num q).2.1).length : Int) then (zero, 3) else (⟨pn, least, off, nonce, ecn, q.drop (num q).2.1⟩, 0)
def g5 (ecn pn least off : Int) (q : List Int) : D × Int := if q.length < 8 then (zero, 2) else g6 ecn pn least off (val (q.take 8)) (q.drop 8)
def g4 (ecn pn least : Int) (q : List Int) : D × Int := if (num q).2.2 ≠ 0 then (zero, (num q).2.2) else g5 ecn pn least (num q).1 (q.drop (num q).2.1)
def g3 (ecn pn : Int) (q : List Int) : D × Int := if (num q).2.2 ≠ 0 then (zero, (num q).2.2) else if pn < (num q).1 then (zero, 5) else g4 ecn pn (num q).1 (q.drop (num q).2.1)
def g2 (ecn : Int) (q : List Int) : D × Int := if (num q).2.2 ≠ 0 then (zero, (num q).2.2) else g3 ecn (num q).1 (q.drop (num q).2.1)
/-- What bytes are as a packet, or the error. -/
def getData : List Int → D × Int
  | [] => (zero, 2)
  | [x] => if x ≠ 1 then (zero, 4) else (zero, 2)
  | x :: y :: q => if x ≠ 1 then (zero, 4) else if y < 1 ∨ 3 < y then (zero, 5) else g2 y q
/-- A packet that may be. -/
def may (d : D) : Bool := decide (d.pn ≤ M) && decide (d.least ≤ d.pn) && decide (1 ≤ d.ecn) && decide (d.ecn ≤ 3) && decide (1 ≤ (d.body.length : Int)) && decide ((d.body.length : Int) ≤ 1500) && decide (d.off ≤ M - d.body.length)
theorem may_iff {d : D} : may d = true ↔ d.pn ≤ M ∧ d.least ≤ d.pn ∧ 1 ≤ d.ecn ∧ d.ecn ≤ 3 ∧ 1 ≤ (d.body.length : Int) ∧ (d.body.length : Int) ≤ 1500 ∧ d.off ≤ M - d.body.length := by
  unfold may
  simp only [Bool.and_eq_true, decide_eq_true_eq, and_assoc]

theorem g6_put {ecn pn least off nonce : Int} {body : List Int} (more : List Int) (h1 : 1 ≤ (body.length : Int)) (h2 : (body.length : Int) ≤ 1500) (h3 : off ≤ M - body.length) :
    g6 ecn pn least off nonce (p6 body ++ more) = if more = [] then (⟨pn, least, off, nonce, ecn, body⟩, 0) else (zero, 3) := by
  unfold g6 p6
  rw [List.append_assoc, num_put (body ++ more) (by omega) (by omega), if_neg (by simp), if_neg (by simp only; omega)]
  simp only [List.drop_left, List.length_append]
  rw [if_neg (by omega)]
  cases more with
  | nil => rw [if_neg (by simp), if_pos rfl, List.append_nil]
  | cons x r => rw [if_pos (by simp only [List.length_cons]; omega), if_neg (by simp)]
theorem take_app {A B : List Int} {c : Nat} : (A ++ B).take c = if c < A.length then A.take c else A ++ B.take (c - A.length) := by
  rw [List.take_append]
  split
  · rw [show c - A.length = 0 by omega, List.take_zero, List.append_nil]
  · rw [List.take_of_length_le (by omega)]
theorem g6_cut {ecn pn least off nonce : Int} {body : List Int} (h1 : 1 ≤ (body.length : Int)) (h2 : (body.length : Int) ≤ 1500) (h3 : off ≤ M - body.length) {c : Nat} (hc : c < (p6 body).length) :
    g6 ecn pn least off nonce ((p6 body).take c) = (zero, 2) := by
  unfold p6 at hc ⊢
  rw [List.length_append] at hc
  rw [take_app]
  unfold g6
  split
  · rename_i h
    rw [num_cut (by omega) (by omega) h, if_pos (by simp)]
  · rw [num_put _ (by omega) (by omega), if_neg (by simp), if_neg (by simp only; omega)]
    simp only [List.drop_left, List.length_take]
    rw [if_pos (by omega)]
theorem g6_one {ecn pn least off nonce : Int} {q : List Int} (hb : Bytes q) {d : D} (h : g6 ecn pn least off nonce q = (d, 0)) :
    d.pn = pn ∧ d.least = least ∧ d.off = off ∧ d.nonce = nonce ∧ d.ecn = ecn ∧ q = p6 d.body ∧ 1 ≤ (d.body.length : Int) ∧ (d.body.length : Int) ≤ 1500 ∧ off ≤ M - d.body.length ∧ Bytes d.body := by
  unfold g6 at h
  split at h
  · rename_i h0
    exact absurd (congrArg Prod.snd h) h0
  · rename_i h0
    split at h
    · cases congrArg Prod.snd h
    · rename_i h1
      split at h
      · cases congrArg Prod.snd h
      · split at h
        · cases congrArg Prod.snd h
        · rename_i h2 h3
          obtain ⟨e1, e2, e3, e4⟩ := num_one (n := (num q).1) (k := (num q).2.1) hb (by rw [← show (num q).2.2 = 0 by omega])
          have hd := congrArg Prod.fst h
          simp only at hd
          subst hd
          have hl : ((q.drop (num q).2.1).length : Int) = (num q).1 := by omega
          refine ⟨rfl, rfl, rfl, rfl, rfl, ?_, by simp only; omega, by simp only; omega, by simp only; omega, hb.drop _⟩
          simp only [p6]
          rw [hl, e1, List.take_append_drop]
theorem g5_put {ecn pn least off nonce : Int} {body : List Int} (more : List Int) (n0 : 0 ≤ nonce) (n1 : nonce ≤ 18446744073709551615) (h1 : 1 ≤ (body.length : Int)) (h2 : (body.length : Int) ≤ 1500) (h3 : off ≤ M - body.length) :
    g5 ecn pn least off (p5 nonce body ++ more) = if more = [] then (⟨pn, least, off, nonce, ecn, body⟩, 0) else (zero, 3) := by
  unfold g5 p5
  have hl := be_len 8 nonce
  rw [List.append_assoc, if_neg (by rw [List.length_append, hl]; omega), List.take_append_of_le_length (by omega), List.take_of_length_le (by omega), val_be, List.drop_append_of_le_length (by omega), List.drop_eq_nil_of_le (by omega), List.nil_append,
    show nonce % 256 ^ 8 = nonce from Int.emod_eq_of_lt n0 (by omega), g6_put more h1 h2 h3]
theorem g5_cut {ecn pn least off nonce : Int} {body : List Int} (h1 : 1 ≤ (body.length : Int)) (h2 : (body.length : Int) ≤ 1500) (h3 : off ≤ M - body.length) {c : Nat} (hc : c < (p5 nonce body).length) :
    g5 ecn pn least off ((p5 nonce body).take c) = (zero, 2) := by
  have hl := be_len 8 nonce
  unfold p5 at hc ⊢
  rw [List.length_append] at hc
  rw [take_app]
  unfold g5
  split
  · rw [if_pos (by rw [List.length_take]; omega)]
  · rw [if_neg (by rw [List.length_append, hl]; omega), List.drop_append_of_le_length (by omega), List.drop_eq_nil_of_le (by omega), List.nil_append, g6_cut h1 h2 h3 (by omega)]
theorem g5_one {ecn pn least off : Int} {q : List Int} (hb : Bytes q) {d : D} (h : g5 ecn pn least off q = (d, 0)) :
    d.pn = pn ∧ d.least = least ∧ d.off = off ∧ d.ecn = ecn ∧ q = p5 d.nonce d.body ∧ 0 ≤ d.nonce ∧ d.nonce ≤ 18446744073709551615 ∧ 1 ≤ (d.body.length : Int) ∧ (d.body.length : Int) ≤ 1500 ∧ off ≤ M - d.body.length ∧ Bytes d.body := by
  unfold g5 at h
  split at h
  · cases congrArg Prod.snd h
  · rename_i h8
    obtain ⟨e1, e2, e3, e4, e5, e6, e7⟩ := g6_one (hb.drop 8) h
    have hv := val_bd8 (hb.take 8) (by rw [List.length_take]; omega)
    refine ⟨e1, e2, e3, e5, ?_, by rw [e4]; exact hv.1, by rw [e4]; exact hv.2, e7⟩
    unfold p5
    have hbe := be_val (hb.take 8)
    rw [show (q.take 8).length = 8 by rw [List.length_take]; omega] at hbe
    rw [e4, hbe, ← e6, List.take_append_drop]
theorem g4_put {ecn pn least off nonce : Int} {body : List Int} (more : List Int) (o0 : 0 ≤ off) (n0 : 0 ≤ nonce) (n1 : nonce ≤ 18446744073709551615) (h1 : 1 ≤ (body.length : Int)) (h2 : (body.length : Int) ≤ 1500) (h3 : off ≤ M - body.length) :
    g4 ecn pn least (p4 off nonce body ++ more) = if more = [] then (⟨pn, least, off, nonce, ecn, body⟩, 0) else (zero, 3) := by
  unfold g4 p4
  unfold M at h3
  rw [List.append_assoc, num_put _ o0 (by omega), if_neg (by simp)]
  simp only [List.drop_left]
  exact g5_put more n0 n1 h1 h2 (by unfold M; omega)
theorem g4_cut {ecn pn least off nonce : Int} {body : List Int} (o0 : 0 ≤ off) (h1 : 1 ≤ (body.length : Int)) (h2 : (body.length : Int) ≤ 1500) (h3 : off ≤ M - body.length) {c : Nat} (hc : c < (p4 off nonce body).length) :
    g4 ecn pn least ((p4 off nonce body).take c) = (zero, 2) := by
  unfold p4 at hc ⊢
  have h3' := h3
  unfold M at h3'
  rw [List.length_append] at hc
  rw [take_app]
  unfold g4
  split
  · rename_i h
    rw [num_cut o0 (by omega) h, if_pos (by simp)]
  · rw [num_put _ o0 (by omega), if_neg (by simp)]
    simp only [List.drop_left]
    exact g5_cut h1 h2 h3 (by omega)
theorem g4_one {ecn pn least : Int} {q : List Int} (hb : Bytes q) {d : D} (h : g4 ecn pn least q = (d, 0)) :
    d.pn = pn ∧ d.least = least ∧ d.ecn = ecn ∧ q = p4 d.off d.nonce d.body ∧ 0 ≤ d.off ∧ 0 ≤ d.nonce ∧ d.nonce ≤ 18446744073709551615 ∧ 1 ≤ (d.body.length : Int) ∧ (d.body.length : Int) ≤ 1500 ∧ d.off ≤ M - d.body.length ∧ Bytes d.body := by
  unfold g4 at h
  split at h
  · rename_i h0
    exact absurd (congrArg Prod.snd h) h0
  · rename_i h0
    obtain ⟨e1, e2, e3, e4, e5, e6⟩ := g5_one (hb.drop _) h
    obtain ⟨f1, f2, f3, f4⟩ := num_one (n := (num q).1) (k := (num q).2.1) hb (by rw [← show (num q).2.2 = 0 by omega])
    refine ⟨e1, e2, e4, ?_, by rw [e3]; exact f3, e6.1, e6.2.1, e6.2.2.1, e6.2.2.2.1, by rw [e3]; exact e6.2.2.2.2.1, e6.2.2.2.2.2⟩
    unfold p4
    rw [e3, f1, ← e5, List.take_append_drop]
theorem g3_put {ecn pn least off nonce : Int} {body : List Int} (more : List Int) (l0 : 0 ≤ least) (l1 : least ≤ pn) (p1 : pn ≤ M) (o0 : 0 ≤ off) (n0 : 0 ≤ nonce) (n1 : nonce ≤ 18446744073709551615) (h1 : 1 ≤ (body.length : Int)) (h2 : (body.length : Int) ≤ 1500) (h3 : off ≤ M - body.length) :
    g3 ecn pn (p3 least off nonce body ++ more) = if more = [] then (⟨pn, least, off, nonce, ecn, body⟩, 0) else (zero, 3) := by
  unfold g3 p3
  unfold M at p1
  rw [List.append_assoc, num_put _ l0 (by omega), if_neg (by simp), if_neg (by simp only; omega)]
  simp only [List.drop_left]
  exact g4_put more o0 n0 n1 h1 h2 h3
theorem g3_cut {ecn pn least off nonce : Int} {body : List Int} (l0 : 0 ≤ least) (l1 : least ≤ pn) (p1 : pn ≤ M) (o0 : 0 ≤ off) (h1 : 1 ≤ (body.length : Int)) (h2 : (body.length : Int) ≤ 1500) (h3 : off ≤ M - body.length) {c : Nat} (hc : c < (p3 least off nonce body).length) :
    g3 ecn pn ((p3 least off nonce body).take c) = (zero, 2) := by
  unfold p3 at hc ⊢
  unfold M at p1
  rw [List.length_append] at hc
  rw [take_app]
  unfold g3
  split
  · rename_i h
    rw [num_cut l0 (by omega) h, if_pos (by simp)]
  · rw [num_put _ l0 (by omega), if_neg (by simp), if_neg (by simp only; omega)]
    simp only [List.drop_left]
    exact g4_cut o0 h1 h2 h3 (by omega)
theorem g3_one {ecn pn : Int} {q : List Int} (hb : Bytes q) {d : D} (h : g3 ecn pn q = (d, 0)) :
    d.pn = pn ∧ d.ecn = ecn ∧ q = p3 d.least d.off d.nonce d.body ∧ 0 ≤ d.least ∧ d.least ≤ pn ∧ 0 ≤ d.off ∧ 0 ≤ d.nonce ∧ d.nonce ≤ 18446744073709551615 ∧ 1 ≤ (d.body.length : Int) ∧ (d.body.length : Int) ≤ 1500 ∧ d.off ≤ M - d.body.length ∧ Bytes d.body := by
  unfold g3 at h
  split at h
  · rename_i h0
    exact absurd (congrArg Prod.snd h) h0
  · rename_i h0
    split at h
    · cases congrArg Prod.snd h
    · rename_i hl
      obtain ⟨e1, e2, e3, e4, e5⟩ := g4_one (hb.drop _) h
      obtain ⟨f1, f2, f3, f4⟩ := num_one (n := (num q).1) (k := (num q).2.1) hb (by rw [← show (num q).2.2 = 0 by omega])
      refine ⟨e1, e3, ?_, by rw [e2]; exact f3, by rw [e2]; omega, e5⟩
      unfold p3
      rw [e2, f1, ← e4, List.take_append_drop]
theorem g2_put {ecn pn least off nonce : Int} {body : List Int} (more : List Int) (l0 : 0 ≤ least) (l1 : least ≤ pn) (p1 : pn ≤ M) (o0 : 0 ≤ off) (n0 : 0 ≤ nonce) (n1 : nonce ≤ 18446744073709551615) (h1 : 1 ≤ (body.length : Int)) (h2 : (body.length : Int) ≤ 1500) (h3 : off ≤ M - body.length) :
    g2 ecn (p2 pn least off nonce body ++ more) = if more = [] then (⟨pn, least, off, nonce, ecn, body⟩, 0) else (zero, 3) := by
  unfold g2 p2
  have p1' := p1
  unfold M at p1'
  rw [List.append_assoc, num_put _ (by omega) (by omega), if_neg (by simp)]
  simp only [List.drop_left]
  exact g3_put more l0 l1 p1 o0 n0 n1 h1 h2 h3
theorem g2_cut {ecn pn least off nonce : Int} {body : List Int} (l0 : 0 ≤ least) (l1 : least ≤ pn) (p1 : pn ≤ M) (o0 : 0 ≤ off) (h1 : 1 ≤ (body.length : Int)) (h2 : (body.length : Int) ≤ 1500) (h3 : off ≤ M - body.length) {c : Nat} (hc : c < (p2 pn least off nonce body).length) :
    g2 ecn ((p2 pn least off nonce body).take c) = (zero, 2) := by
  unfold p2 at hc ⊢
  have p1' := p1
  unfold M at p1'
  rw [List.length_append] at hc
  rw [take_app]
  unfold g2
  split
  · rename_i h
    rw [num_cut (by omega) (by omega) h, if_pos (by simp)]
  · rw [num_put _ (by omega) (by omega), if_neg (by simp)]
    simp only [List.drop_left]
    exact g3_cut l0 l1 p1 o0 h1 h2 h3 (by omega)
theorem g2_one {ecn : Int} {q : List Int} (hb : Bytes q) {d : D} (h : g2 ecn q = (d, 0)) :
    d.ecn = ecn ∧ q = p2 d.pn d.least d.off d.nonce d.body ∧ d.pn ≤ M ∧ 0 ≤ d.least ∧ d.least ≤ d.pn ∧ 0 ≤ d.off ∧ 0 ≤ d.nonce ∧ d.nonce ≤ 18446744073709551615 ∧ 1 ≤ (d.body.length : Int) ∧ (d.body.length : Int) ≤ 1500 ∧ d.off ≤ M - d.body.length ∧ Bytes d.body := by
  unfold g2 at h
  split at h
  · rename_i h0
    exact absurd (congrArg Prod.snd h) h0
  · rename_i h0
    obtain ⟨e1, e2, e3, e4, e5, e6⟩ := g3_one (hb.drop _) h
    obtain ⟨f1, f2, f3, f4⟩ := num_one (n := (num q).1) (k := (num q).2.1) hb (by rw [← show (num q).2.2 = 0 by omega])
    refine ⟨e2, ?_, by rw [e1]; exact f4, e4, by rw [e1]; exact e5, e6⟩
    unfold p2
    rw [e1, f1, ← e3, List.take_append_drop]
/-- The numbers of a packet, as they lie in a word. -/
def Fit (d : D) : Prop := 0 ≤ d.pn ∧ 0 ≤ d.least ∧ 0 ≤ d.off ∧ 0 ≤ d.nonce ∧ d.nonce ≤ 18446744073709551615 ∧ Bytes d.body
theorem get_put {d : D} (hm : may d = true) (hf : Fit d) (more : List Int) : getData (putData d ++ more) = if more = [] then (d, 0) else (zero, 3) := by
  obtain ⟨m1, m2, m3, m4, m5, m6, m7⟩ := may_iff.1 hm
  obtain ⟨f1, f2, f3, f4, f5, f6⟩ := hf
  unfold putData getData
  simp only [List.cons_append]
  rw [if_neg (by simp), if_neg (by omega), g2_put more f2 m2 m1 f3 f4 f5 m5 m6 m7]
theorem get_cut {d : D} (hm : may d = true) (hf : Fit d) {c : Nat} (hc : c < (putData d).length) : getData ((putData d).take c) = (zero, 2) := by
  obtain ⟨m1, m2, m3, m4, m5, m6, m7⟩ := may_iff.1 hm
  obtain ⟨f1, f2, f3, f4, f5, f6⟩ := hf
  unfold putData at hc ⊢
  simp only [List.length_cons] at hc
  rcases c with _ | _ | c
  · rfl
  · simp only [List.take_succ_cons, List.take_zero, getData]
    rw [if_neg (by simp)]
  · simp only [List.take_succ_cons, getData]
    rw [if_neg (by simp), if_neg (by omega), g2_cut f2 m2 m1 f3 m5 m6 m7 (by omega)]
theorem get_one {l : List Int} (hb : Bytes l) {d : D} (h : getData l = (d, 0)) : l = putData d ∧ may d = true ∧ Fit d := by
  match l, hb, h with
  | [], _, h => cases congrArg Prod.snd h
  | [x], _, h =>
    rw [getData] at h
    split at h <;> cases congrArg Prod.snd h
  | x :: y :: q, hb, h =>
    rw [getData] at h
    split at h
    · cases congrArg Prod.snd h
    · rename_i hx
      split at h
      · cases congrArg Prod.snd h
      · rename_i hy
        obtain ⟨e1, e2, e3, e4, e5, e6, e7, e8, e9, e10, e11, e12⟩ := g2_one hb.tail.tail h
        refine ⟨?_, may_iff.2 ⟨e3, e5, by omega, by omega, e9, e10, e11⟩, by omega, e4, e6, e7, e8, e12⟩
        unfold putData
        rw [← e2, e1, show x = 1 by omega]
theorem get_bad {l : List Int} (h : (getData l).2 ≠ 0) : (getData l).1 = zero := by
  unfold getData at *
  split at h <;> try rfl
  · split <;> rfl
  · split
    · rfl
    · split
      · rfl
      · rename_i h1 h2
        rw [if_neg h1, if_neg h2] at h
        unfold g2 at *
        split
        · rfl
        · rename_i h3
          rw [if_neg h3] at h
          unfold g3 at *
          split
          · rfl
          · rename_i h4
            rw [if_neg h4] at h
            split
            · rfl
            · rename_i h5
              rw [if_neg h5] at h
              unfold g4 at *
              split
              · rfl
              · rename_i h6
                rw [if_neg h6] at h
                unfold g5 at *
                split
                · rfl
                · rename_i h7
                  rw [if_neg h7] at h
                  unfold g6 at *
                  split
                  · rfl
                  · rename_i h8
                    rw [if_neg h8] at h
                    split
                    · rfl
                    · rename_i h9
                      rw [if_neg h9] at h
                      split
                      · rfl
                      · rename_i h10
                        rw [if_neg h10] at h
                        split
                        · rfl
                        · rename_i h11
                          rw [if_neg h11] at h
                          exact absurd rfl h
theorem put_data_bytes {d : D} (h : may d = true) (hb : Bytes d.body) : Bytes (putData d) := by
  obtain ⟨m1, m2, m3, m4, m5⟩ := may_iff.1 h
  unfold putData p2 p3 p4 p5 p6
  exact Bytes.cons (by omega) (Bytes.cons (by omega) ((put_bytes _).append ((put_bytes _).append ((put_bytes _).append ((be_bytes 8 _).append ((put_bytes _).append hb))))))
theorem put_data_len (d : D) : (putData d).length ≤ 42 + d.body.length := by
  have h := fun n => put_len n
  have hs := fun n => size_bd n
  have a1 := h d.pn; have b1 := hs d.pn
  have a2 := h d.least; have b2 := hs d.least
  have a3 := h d.off; have b3 := hs d.off
  have a4 := h d.body.length; have b4 := hs d.body.length
  unfold putData p2 p3 p4 p5 p6
  simp only [List.length_cons, List.length_append, be_len]
  omega
end Go.Proofs.Ytlnncfjfphkkdaa.HeadPlain
