/-
  Acknowledgments as bytes, step by step: what a loop over spans knows, a reading by places. Nothing here names a program.
-/
import Derived.Test.YtangljeceohdpaaDoorAckPlain
import Derived.Test.YtangljeceohdpaaDoorHeadStep
namespace Go.Proofs.YtangljeceohdpaaDoor.AckPlain
set_option linter.unusedVariables false
open Go.Proofs.YtangljeceohdpaaDoor.OctPlain Go.Proofs.YtangljeceohdpaaDoor.SpanPlain
open Go.Proofs.YtangljeceohdpaaDoor.HeadPlain (wrd wrd_len wrd_bd)

theorem getSp_err : ∀ (n : Nat) (low : Int) (q : List Int), (getSp n low q).2.2 ≠ 0 → getSp n low q = ([], 0, (getSp n low q).2.2)
  | 0, _, _, h => absurd rfl h
  | n + 1, low, q, h => by
    rw [getSp] at h ⊢
    split at h
    · rename_i h1; rw [if_pos h1]
    · rename_i h1
      rw [if_neg h1]
      split at h
      · rename_i h2; rw [if_pos h2]
      · rename_i h2
        rw [if_neg h2]
        split at h
        · rename_i h3; rw [if_pos h3]
        · rename_i h3
          rw [if_neg h3]
          split at h
          · rename_i h4; rw [if_pos h4]
          · rename_i h4
            rw [if_neg h4]
            split at h
            · rename_i h5; rw [if_pos h5]
            · exact absurd rfl h
/-- Spans read so far, bytes used so far, and what comes of the rest. -/
def comb (pre : List Sp) (used : Nat) (r : List Sp × Nat × Int) : List Sp × Nat × Int := if r.2.2 ≠ 0 then ([], 0, r.2.2) else (pre ++ r.1, used + r.2.1, 0)
theorem comb_start (n : Nat) (low : Int) (q : List Int) : comb [] 0 (getSp n low q) = getSp n low q := by
  unfold comb
  by_cases h : (getSp n low q).2.2 = 0
  · rw [if_neg (by simp [h])]
    simp only [List.nil_append, Nat.zero_add]
    rw [← h]
  · rw [if_pos h, ← getSp_err n low q h]
theorem comb_end (pre : List Sp) (used : Nat) (low : Int) (q : List Int) : comb pre used (getSp 0 low q) = (pre, used, 0) := by
  simp [comb, getSp]
theorem comb_bad (pre : List Sp) (used : Nat) {r : List Sp × Nat × Int} {e : Int} (h : r = ([], 0, e)) (he : e ≠ 0) : comb pre used r = ([], 0, e) := by
  subst h
  exact if_pos he
theorem comb_num (pre : List Sp) (used m : Nat) {low : Int} {q : List Int} (h : (num q).2.2 ≠ 0) : comb pre used (getSp (m + 1) low q) = ([], 0, (num q).2.2) := by
  refine comb_bad _ _ ?_ h
  rw [getSp, if_pos h]
theorem comb_low (pre : List Sp) (used m : Nat) {low : Int} {q : List Int} (h : (num q).2.2 = 0) (h2 : SpanPlain.M < low ∨ SpanPlain.M - low < (num q).1) : comb pre used (getSp (m + 1) low q) = ([], 0, 5) := by
  refine comb_bad _ _ ?_ (by decide)
  rw [getSp, if_neg (by simp [h]), if_pos h2]
theorem comb_num2 (pre : List Sp) (used m : Nat) {low : Int} {q : List Int} (h : (num q).2.2 = 0) (h2 : ¬ (SpanPlain.M < low ∨ SpanPlain.M - low < (num q).1)) (h3 : (num (q.drop (num q).2.1)).2.2 ≠ 0) :
    comb pre used (getSp (m + 1) low q) = ([], 0, (num (q.drop (num q).2.1)).2.2) := by
  refine comb_bad _ _ ?_ h3
  rw [getSp, if_neg (by simp [h]), if_neg h2, if_pos h3]
theorem comb_high (pre : List Sp) (used m : Nat) {low : Int} {q : List Int} (h : (num q).2.2 = 0) (h2 : ¬ (SpanPlain.M < low ∨ SpanPlain.M - low < (num q).1)) (h3 : (num (q.drop (num q).2.1)).2.2 = 0) (h4 : SpanPlain.M - (low + (num q).1) < (num (q.drop (num q).2.1)).1) :
    comb pre used (getSp (m + 1) low q) = ([], 0, 5) := by
  refine comb_bad _ _ ?_ (by decide)
  rw [getSp, if_neg (by simp [h]), if_neg h2, if_neg (by simp [h3]), if_pos h4]
theorem comb_go (pre : List Sp) (used m : Nat) {low x y : Int} {q : List Int} {k1 k2 : Nat} (h : num q = (x, k1, 0)) (h2 : ¬ (SpanPlain.M < low ∨ SpanPlain.M - low < x)) (h3 : num (q.drop k1) = (y, k2, 0)) (h4 : ¬ SpanPlain.M - (low + x) < y) :
    comb pre used (getSp (m + 1) low q) = comb (pre ++ [(low + x, low + x + y)]) (used + (k1 + k2)) (getSp m (low + x + y + 2) ((q.drop k1).drop k2)) := by
  rw [getSp]
  simp only [h, h3]
  rw [if_neg (by simp), if_neg h2, if_neg (by simp), if_neg h4]
  generalize hr : getSp m (low + x + y + 2) ((q.drop k1).drop k2) = r
  obtain ⟨r1, r2, r3⟩ := r
  by_cases h5 : r3 = 0
  · subst h5
    simp [comb, Nat.add_assoc]
  · simp [comb, h5]
theorem getSp_len : ∀ (n : Nat) (low : Int) (q : List Int), (getSp n low q).2.1 ≤ q.length
  | 0, _, _ => Nat.zero_le _
  | n + 1, low, q => by
    rw [getSp]
    have a1 := num_len q
    have a2 := num_len (q.drop (num q).2.1)
    split
    · exact Nat.zero_le _
    split
    · exact Nat.zero_le _
    split
    · exact Nat.zero_le _
    split
    · exact Nat.zero_le _
    split
    · exact Nat.zero_le _
    · have a3 := getSp_len n (low + (num q).1 + (num (q.drop (num q).2.1)).1 + 2) ((q.drop (num q).2.1).drop (num (q.drop (num q).2.1)).2.1)
      rw [List.length_drop] at a2
      rw [List.length_drop, List.length_drop] at a3
      show (num q).2.1 + ((num (q.drop (num q).2.1)).2.1 + _) ≤ _
      omega
theorem getRow_len (least : Int) (q : List Int) : (getRow least q).2.1 ≤ q.length := by
  cases q with
  | nil => exact Nat.le_refl _
  | cons x q =>
    rw [getRow]
    have a := getSp_len x.toNat 0 q
    split
    · exact Nat.zero_le _
    split
    · exact Nat.zero_le _
    · show 1 + _ ≤ _
      rw [List.length_cons]
      omega
theorem getRow_err {least : Int} {q : List Int} (h : (getRow least q).2.2 ≠ 0) : getRow least q = ([], 0, (getRow least q).2.2) := by
  cases q with
  | nil => rfl
  | cons x q =>
    rw [getRow] at h ⊢
    split at h
    · rename_i h1; rw [if_pos h1]
    · rename_i h1
      rw [if_neg h1]
      split at h
      · rename_i h2; rw [if_pos h2]
      · exact absurd rfl h
theorem putSp_step {l : List Sp} {i : Nat} (h : i < l.length) (low : Int) :
    putSp low (l.drop i) = put ((l.getD i (0, 0)).1 - low) ++ (put ((l.getD i (0, 0)).2 - (l.getD i (0, 0)).1) ++ putSp ((l.getD i (0, 0)).2 + 2) (l.drop (i + 1))) := by
  rw [drop_cons h, putSp]
theorem good_step {l : List Sp} {i : Nat} (h : i < l.length) {low : Int} (hg : goodFrom low (l.drop i) = true) :
    low ≤ (l.getD i (0, 0)).1 ∧ (l.getD i (0, 0)).1 ≤ (l.getD i (0, 0)).2 ∧ (l.getD i (0, 0)).2 ≤ 4611686018427387903 ∧ goodFrom ((l.getD i (0, 0)).2 + 2) (l.drop (i + 1)) = true := by
  rw [drop_cons h] at hg
  exact goodFrom_cons.1 hg
/-- What bytes are as an acknowledgment, by places. -/
theorem ack_at {l q : List Int} (hl : l = 2 :: q) {sp mk : List Sp} {trig xr e1 e2 e3 e4 : Int} {t1 t2 t3 t4 k1 k2 k3 k4 : Nat}
    (a1 : getRow 1 (l.drop 1) = (sp, k1, e1)) (u1 : t1 = 1 + k1) (a2 : getRow 0 (l.drop t1) = (mk, k2, e2)) (u2 : t2 = t1 + k2) (a3 : wrd (l.drop t2) = (trig, k3, e3)) (u3 : t3 = t2 + k3) (a4 : wrd (l.drop t3) = (xr, k4, e4)) (u4 : t4 = t3 + k4) :
    getAck l = if e1 ≠ 0 then (zero, e1) else if e2 ≠ 0 then (zero, e2) else if e3 ≠ 0 then (zero, e3) else if e4 ≠ 0 then (zero, e4) else h5 sp mk trig xr (l.drop t4) := by
  have hg : getAck l = h1 (l.drop 1) := by
    rw [hl, getAck, if_neg (show ¬ (2 : Int) ≠ 2 by simp)]
    rfl
  rw [hg]
  unfold h1 h2
  simp only [a1, List.drop_drop, ← u1, a2, ← u2]
  by_cases c1 : e1 = 0
  · by_cases c2 : e2 = 0
    · have w1 : ∀ X : List Int, ∀ r k e, wrd X = (r, k, e) → (X.length < 8 ∧ e = 2) ∨ (¬ X.length < 8 ∧ r = val (X.take 8) ∧ k = 8 ∧ e = 0) := fun X r k e h => by
        unfold wrd at h
        split at h
        · rename_i h8; cases h; exact Or.inl ⟨h8, rfl⟩
        · rename_i h8; cases h; exact Or.inr ⟨h8, rfl, rfl, rfl⟩
      simp only [c1, c2, ne_eq, not_true_eq_false, if_false]
      unfold h3
      rcases w1 _ _ _ _ a3 with ⟨b1, b2⟩ | ⟨b1, b2, b3, b4⟩
      · rw [if_pos b1, b2, if_pos (by simp)]
      · rw [if_neg b1, b4, if_neg (by simp), ← b2]
        unfold h4
        rw [List.drop_drop, show t2 + 8 = t3 by omega]
        rcases w1 _ _ _ _ a4 with ⟨d1, d2⟩ | ⟨d1, d2, d3, d4⟩
        · rw [if_pos d1, d2, if_pos (by simp)]
        · rw [if_neg d1, d4, if_neg (by simp), ← d2, List.drop_drop, show t3 + 8 = t4 by omega]
    · simp [c1, c2]
  · simp [c1]
theorem ack_bad {l : List Int} (h : (getAck l).2 ≠ 0) : (getAck l).1 = zero := by
  cases l with
  | nil => rfl
  | cons x q =>
    rw [getAck] at h ⊢
    split at h
    · rename_i c; rw [if_pos c]
    rename_i c; rw [if_neg c]
    unfold h1 at h ⊢
    split at h
    · rename_i c; rw [if_pos c]
    rename_i c; rw [if_neg c]
    unfold h2 at h ⊢
    split at h
    · rename_i c; rw [if_pos c]
    rename_i c; rw [if_neg c]
    unfold h3 at h ⊢
    split at h
    · rename_i c; rw [if_pos c]
    rename_i c; rw [if_neg c]
    unfold h4 at h ⊢
    split at h
    · rename_i c; rw [if_pos c]
    rename_i c; rw [if_neg c]
    unfold h5 at h ⊢
    split
    · rfl
    · rename_i X x r hX
      rw [hX] at h
      dsimp only at h
      split at h
      · rename_i c; rw [if_pos c]
      rename_i c; rw [if_neg c]
      split at h
      · rename_i c; rw [if_pos c]
      rename_i c; rw [if_neg c]
      split at h
      · exact absurd rfl h
      · rename_i c; rw [if_neg c]
theorem put_ack_len (a : K) : (putAck a).length ≤ 20 + 16 * a.spans.length + 16 * a.marked.length := by
  have h1 := put_sp_len a.spans 0
  have h2 := put_sp_len a.marked 0
  unfold putAck q1 q2 q3 q4 q5 putRow
  simp only [List.length_cons, List.length_append, be_len, List.length_nil]
  omega
/-- What bytes are as a challenge: its number, the error. -/
def getNum : List Int → Int × Int
  | [] => (0, 2)
  | x :: q => if x ≠ 3 then (0, 4) else if (num q).2.2 ≠ 0 then (0, (num q).2.2) else if q.drop (num q).2.1 ≠ [] then (0, 3) else ((num q).1, 0)
theorem getNum_put {n : Int} (h0 : 0 ≤ n) (h1 : n ≤ 4611686018427387903) : getNum (3 :: put n) = (n, 0) := by
  have h := num_put [] h0 h1
  rw [List.append_nil] at h
  rw [getNum, if_neg (by simp)]
  simp only [h]
  rw [if_neg (by simp), if_neg (by simp)]
end Go.Proofs.YtangljeceohdpaaDoor.AckPlain
