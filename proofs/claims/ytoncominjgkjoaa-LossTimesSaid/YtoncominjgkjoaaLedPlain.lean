/-
  A ledger as the document defines it: its numbers, and what is kept of each number that was given. Plain.
-/
import Derived.Test.YtoncominjgkjoaaSatPlain
set_option linter.unusedSimpArgs false
set_option linter.unusedVariables false
namespace Go.Proofs.Ytoncominjgkjoaa.LedPlain
set_option linter.unusedVariables false

/-- What is kept of a number. -/
structure Sn where
  pn : Int
  off : Int
  len : Int
  nonce : Int
  time : Int
  coin : Bool
  used : Bool
  state : Int
def Z8 : Sn := ⟨0, 0, 0, 0, 0, false, false, 0⟩
/-- A ledger: how many it keeps, its greatest number, all that ever was given. -/
structure Lg where
  ring : Int
  limit : Int
  l : List Sn
def atN (g : Lg) (i : Nat) : Sn := g.l.getD i Z8
/-- How many numbers are kept no more. -/
def lowN (g : Lg) : Nat := g.l.length - g.ring.toNat
/-- The first that flies, from number k on. -/
def firstF : Nat → List Sn → Nat
  | k, [] => k
  | k, s :: t => if s.state = 1 then k else firstF (k + 1) t
def leastN (g : Lg) : Nat := firstF (lowN g) (g.l.drop (lowN g))
def roomI (g : Lg) : Int := g.ring - ((g.l.length : Int) - leastN g)
/-- The bytes of those that fly. -/
def fly : List Sn → Int
  | [] => 0
  | s :: t => (if s.state = 1 then s.len else 0) + fly t
def flight (g : Lg) : Int := fly (g.l.drop (lowN g))
def keptN (g : Lg) (pn : Int) : Prop := (lowN g : Int) ≤ pn ∧ pn < g.l.length
instance (g : Lg) (pn : Int) : Decidable (keptN g pn) := by unfold keptN; infer_instance
def getS (g : Lg) (pn : Int) : Sn := if keptN g pn then atN g pn.toNat else Z8
def hasN (g : Lg) (pn : Int) : Bool := decide (keptN g pn)
def allS (g : Lg) : List Sn := g.l.drop (lowN g)
/-- Why no number is given: 0 if one is. -/
def giveE (g : Lg) : Int := if (g.l.length : Int) > g.limit then 8 else if roomI g ≤ 0 then 7 else 0
def giveG (g : Lg) (s : Sn) : Lg := if giveE g = 0 then { g with l := g.l ++ [{ s with pn := g.l.length }] } else g
def giveN (g : Lg) : Int := if giveE g = 0 then g.l.length else 0
def badS (s : Sn) : Prop := s.len < 1 ∨ 1500 < s.len ∨ 4611686018427387903 < s.off
instance (s : Sn) : Decidable (badS s) := by unfold badS; infer_instance
def sendE (g : Lg) (s : Sn) : Int := if badS s then 1 else giveE g
def sendN (g : Lg) (s : Sn) : Int := if badS s then 0 else giveN g
def sendG (g : Lg) (s : Sn) : Lg := if badS s then g else giveG g { s with state := 1, used := false }
def skipG (g : Lg) : Lg := giveG g { Z8 with state := 4 }
def useB (g : Lg) (pn : Int) : Bool := decide (keptN g pn ∧ (atN g pn.toNat).state ≠ 4 ∧ (atN g pn.toNat).used = false)
def useG (g : Lg) (pn : Int) : Lg := if useB g pn = true then { g with l := g.l.set pn.toNat { atN g pn.toNat with used := true } } else g
def settleB (g : Lg) (pn st : Int) : Bool := decide (keptN g pn ∧ ((st = 2 ∧ ((atN g pn.toNat).state = 1 ∨ (atN g pn.toNat).state = 3)) ∨ (st = 3 ∧ (atN g pn.toNat).state = 1)))
def settleG (g : Lg) (pn st : Int) : Lg := if settleB g pn st = true then { g with l := g.l.set pn.toNat { atN g pn.toNat with state := st } } else g
def newG (ring limit : Int) : Lg := ⟨max 4 (min ring 256), min limit 4611686018427387903, []⟩

/-- The words of what is kept are words. -/
def Words (s : Sn) : Prop := 0 ≤ s.pn ∧ s.pn ≤ 18446744073709551615 ∧ 0 ≤ s.off ∧ s.off ≤ 18446744073709551615 ∧ 0 ≤ s.len ∧ s.len ≤ 18446744073709551615 ∧ 0 ≤ s.nonce ∧ s.nonce ≤ 18446744073709551615 ∧ 0 ≤ s.time ∧ s.time ≤ 18446744073709551615 ∧ -9223372036854775808 ≤ s.state ∧ s.state ≤ 9223372036854775807
/-- What holds of number i. -/
def Each (g : Lg) (i : Nat) (s : Sn) : Prop := s.pn = i ∧ Words s ∧ 1 ≤ s.state ∧ s.state ≤ 4 ∧ (s.state ≠ 4 → 1 ≤ s.len ∧ s.len ≤ 1500 ∧ s.off ≤ 4611686018427387903) ∧ (s.state = 4 → s.used = false) ∧ (s.state = 1 → lowN g ≤ i)
/-- A ledger that may be. -/
structure Ok (g : Lg) : Prop where
  r0 : 4 ≤ g.ring
  r1 : g.ring ≤ 256
  l0 : 0 ≤ g.limit
  l1 : g.limit ≤ 4611686018427387903
  n1 : (g.l.length : Int) ≤ g.limit + 1
  each : ∀ i, i < g.l.length → Each g i (atN g i)
theorem ok_new (ring limit : Int) (h : 0 ≤ limit) : Ok (newG ring limit) :=
  ⟨by unfold newG; simp only; omega, by unfold newG; simp only; omega, by unfold newG; simp only; omega, by unfold newG; simp only; omega, by unfold newG; simp only [List.length_nil]; omega, fun i hi => by simp [newG] at hi⟩
theorem first_ge : ∀ (k : Nat) (l : List Sn), k ≤ firstF k l
  | k, [] => Nat.le_refl _
  | k, s :: t => by
    unfold firstF
    split
    · exact Nat.le_refl _
    · have := first_ge (k + 1) t
      omega
theorem first_le : ∀ (k : Nat) (l : List Sn), firstF k l ≤ k + l.length
  | k, [] => Nat.le_refl _
  | k, s :: t => by
    unfold firstF
    split
    · omega
    · have := first_le (k + 1) t
      rw [List.length_cons]
      omega
/-- All ahead of the first that flies do not fly. -/
theorem first_pre : ∀ (k : Nat) (l : List Sn) (i : Nat), k + i < firstF k l → (l.getD i Z8).state ≠ 1
  | k, [], i, h => by unfold firstF at h; omega
  | k, s :: t, i, h => by
    unfold firstF at h
    split at h
    · omega
    · rename_i hs
      cases i with
      | zero => simpa using hs
      | succ i => simpa using first_pre (k + 1) t i (by omega)
theorem first_at : ∀ (k : Nat) (l : List Sn), firstF k l < k + l.length → (l.getD (firstF k l - k) Z8).state = 1
  | k, [], h => by simp at h; unfold firstF at h; omega
  | k, s :: t, h => by
    unfold firstF at h ⊢
    split
    · rename_i hs
      simpa using hs
    · rename_i hs
      rw [if_neg hs, List.length_cons] at h
      have := first_at (k + 1) t (by omega)
      have h2 := first_ge (k + 1) t
      rw [show firstF (k + 1) t - k = (firstF (k + 1) t - (k + 1)) + 1 by omega]
      simpa using this
theorem low_le (g : Lg) : lowN g ≤ g.l.length := by unfold lowN; omega
theorem least_ge (g : Lg) : lowN g ≤ leastN g := first_ge _ _
theorem least_le (g : Lg) : leastN g ≤ g.l.length := by
  have := first_le (lowN g) (g.l.drop (lowN g))
  have h := low_le g
  rw [List.length_drop] at this
  unfold leastN
  omega
theorem drop_getD (l : List Sn) (k i : Nat) : (l.drop k).getD i Z8 = l.getD (k + i) Z8 := by simp [List.getD]
/-- Ahead of the least one nothing flies. -/
theorem least_pre {g : Lg} (h : Ok g) {i : Nat} (hi : i < leastN g) : (atN g i).state ≠ 1 := by
  by_cases hl : i < lowN g
  · intro e
    have := (h.each i (by have := low_le g; omega)).2.2.2.2.2.2 e
    omega
  · have := first_pre (lowN g) (g.l.drop (lowN g)) (i - lowN g) (by unfold leastN at hi; omega)
    rw [drop_getD, show lowN g + (i - lowN g) = i by omega] at this
    exact this
theorem room_ge {g : Lg} (h : Ok g) : 0 ≤ roomI g := by
  have := h.r0
  have h1 := least_ge g
  have h2 := least_le g
  unfold roomI
  unfold lowN at h1
  omega
theorem room_le {g : Lg} (h : Ok g) : roomI g ≤ g.ring := by
  have h2 := least_le g
  unfold roomI
  omega
/-- One behind another keeps a list's other places. -/
theorem at_snoc_lt {g : Lg} {s : Sn} {i : Nat} (hi : i < g.l.length) : atN { g with l := g.l ++ [s] } i = atN g i := by
  unfold atN
  simp only [List.getD]
  rw [List.getElem?_append_left hi]
theorem at_snoc {g : Lg} {s : Sn} : atN { g with l := g.l ++ [s] } g.l.length = s := by
  unfold atN
  simp [List.getD]
theorem at_set_ne {g : Lg} {s : Sn} {k i : Nat} (h : k ≠ i) : atN { g with l := g.l.set k s } i = atN g i := by
  unfold atN
  simp only [List.getD]
  rw [List.getElem?_set_ne h]
theorem at_set {g : Lg} {s : Sn} {k : Nat} (h : k < g.l.length) : atN { g with l := g.l.set k s } k = s := by
  unfold atN
  simp [List.getD, h]
theorem ok_give {g : Lg} (h : Ok g) {s : Sn} (hs : Words s) (h1 : 1 ≤ s.state) (h4 : s.state ≤ 4) (hl : s.state ≠ 4 → 1 ≤ s.len ∧ s.len ≤ 1500 ∧ s.off ≤ 4611686018427387903) (hu : s.state = 4 → s.used = false) : Ok (giveG g s) := by
  unfold giveG
  split
  · rename_i he
    have r0 := h.r0
    have r1 := h.r1
    have l1 := h.l1
    have n1 := h.n1
    have hlim : (g.l.length : Int) ≤ g.limit := by
      unfold giveE at he
      split at he
      · cases he
      · omega
    have hroom : 0 < roomI g := by
      unfold giveE at he
      rw [if_neg (by omega)] at he
      split at he
      · cases he
      · omega
    refine ⟨h.r0, h.r1, h.l0, h.l1, by simp only [List.length_append, List.length_singleton]; omega, fun i hi => ?_⟩
    simp only [List.length_append, List.length_singleton] at hi
    by_cases e : i = g.l.length
    · subst e
      rw [at_snoc]
      refine ⟨rfl, ?_, h1, h4, hl, hu, fun _ => ?_⟩
      · unfold Words at hs ⊢
        simp only
        omega
      · unfold lowN
        simp only [List.length_append, List.length_singleton]
        omega
    · rw [at_snoc_lt (by omega)]
      obtain ⟨e1, e2, e3, e4, e5, e6, e7⟩ := h.each i (by omega)
      refine ⟨e1, e2, e3, e4, e5, e6, fun hf => ?_⟩
      have hp : leastN g ≤ i := by
        rcases Nat.lt_or_ge i (leastN g) with hlt | hge
        · exact absurd hf (least_pre h hlt)
        · exact hge
      unfold roomI at hroom
      unfold lowN
      simp only [List.length_append, List.length_singleton]
      omega
  · exact h
theorem ok_send {g : Lg} (h : Ok g) {s : Sn} (hs : Words s) : Ok (sendG g s) := by
  unfold sendG
  split
  · exact h
  · rename_i hb
    refine ok_give h ?_ (Int.le_refl _) (show (1 : Int) ≤ 4 by decide) (fun _ => ?_) (fun e => by cases e)
    · unfold Words at hs ⊢
      simp only
      omega
    · unfold badS at hb
      simp only
      omega
theorem ok_skip {g : Lg} (h : Ok g) : Ok (skipG g) := ok_give h (by unfold Words Z8; decide) (by decide) (by decide) (fun e => absurd rfl e) (fun _ => rfl)
theorem low_set (g : Lg) (k : Nat) (s : Sn) : lowN { g with l := g.l.set k s } = lowN g := by unfold lowN; simp
theorem ok_set {g : Lg} (h : Ok g) {k : Nat} {s : Sn} (hk : k < g.l.length) (hs : Each g k s) : Ok { g with l := g.l.set k s } :=
  ⟨h.r0, h.r1, h.l0, h.l1, by simp only [List.length_set]; exact h.n1, fun i hi => by
    simp only [List.length_set] at hi
    unfold Each
    rw [low_set]
    by_cases e : k = i
    · subst e
      rw [at_set hk]
      exact hs
    · rw [at_set_ne e]
      exact h.each i hi⟩
theorem ok_use {g : Lg} (h : Ok g) (pn : Int) : Ok (useG g pn) := by
  unfold useG
  split
  · rename_i hu
    obtain ⟨⟨k0, k1⟩, h4, h5⟩ := of_decide_eq_true hu
    have hk : pn.toNat < g.l.length := by omega
    obtain ⟨e1, e2, e3, e4, e5, e6, e7⟩ := h.each _ hk
    exact ok_set h hk ⟨e1, e2, e3, e4, e5, fun e => absurd e h4, e7⟩
  · exact h
theorem ok_settle {g : Lg} (h : Ok g) (pn st : Int) : Ok (settleG g pn st) := by
  unfold settleG
  split
  · rename_i hu
    obtain ⟨⟨k0, k1⟩, h4⟩ := of_decide_eq_true hu
    have hk : pn.toNat < g.l.length := by omega
    obtain ⟨e1, e2, e3, e4, e5, e6, e7⟩ := h.each _ hk
    refine ok_set h hk ⟨e1, ?_, ?_, ?_, ?_, ?_, ?_⟩
    · unfold Words at e2 ⊢
      simp only
      omega
    · simp only
      omega
    · simp only
      omega
    · intro _
      exact e5 (by omega)
    · simp only
      omega
    · simp only
      omega
  · exact h
theorem send_len (g : Lg) (s : Sn) : (sendG g s).l.length ≤ g.l.length + 1 := by
  unfold sendG giveG
  split
  · omega
  · split
    · simp
    · omega
theorem skip_len (g : Lg) : (skipG g).l.length ≤ g.l.length + 1 := by
  unfold skipG giveG
  split
  · simp
  · omega
theorem use_len (g : Lg) (pn : Int) : (useG g pn).l.length = g.l.length := by
  unfold useG
  split
  · simp
  · rfl
theorem settle_len (g : Lg) (pn st : Int) : (settleG g pn st).l.length = g.l.length := by
  unfold settleG
  split
  · simp
  · rfl
theorem kept_len (g : Lg) : (allS g).length = g.l.length - lowN g := by unfold allS; rw [List.length_drop]
/-- What flies comes to less than a word. -/
theorem fly_le : ∀ (l : List Sn), (∀ s ∈ l, s.state = 1 → 0 ≤ s.len ∧ s.len ≤ 1500) → 0 ≤ fly l ∧ fly l ≤ 1500 * (l.length : Int)
  | [], _ => by simp [fly]
  | s :: t, h => by
    have h1 := fly_le t fun s hs => h s (List.mem_cons_of_mem _ hs)
    unfold fly
    rw [List.length_cons]
    split
    · rename_i e
      have := h s List.mem_cons_self e
      omega
    · omega
end Go.Proofs.Ytoncominjgkjoaa.LedPlain
