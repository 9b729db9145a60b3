/-
  Several texts in one: SatPlain, LedPlain, BudPlain.
-/
import Derived.Lib.ItoaNum
/-
  The plain mathematics of chapter 1: saturating arithmetic on whole numbers. No program is named here.
-/
set_option linter.unusedSimpArgs false
set_option linter.unusedVariables false
namespace Go.Proofs.YtkiloaebokkjbaaGreat.Sat

def add (a b : Int) : Int := if a + b ≤ 18446744073709551615 then a + b else 18446744073709551615
def sub (a b : Int) : Int := if b > a then 0 else a - b
/-- a times 2 to the k. -/
def pw (a : Int) (k : Nat) : Int := a * 2 ^ k
def shl (a n : Int) : Int := if pw a n.toNat ≤ 18446744073709551615 then pw a n.toNat else 18446744073709551615
theorem pw_zero (a : Int) : pw a 0 = a := by unfold pw; omega
end Go.Proofs.YtkiloaebokkjbaaGreat.Sat

/-
  A ledger as the document defines it: its numbers, and what is kept of each number that was given. Plain.
-/
set_option linter.unusedSimpArgs false
set_option linter.unusedVariables false
namespace Go.Proofs.YtkiloaebokkjbaaGreat.LedPlain
set_option linter.unusedVariables false

/-- What is kept of a number. -/
structure Sn where
  pn : Int
  off : Int
  len : Int
  nonce : Int
  time : Int
  coin : Bool
  used : Bool
  state : Int
def Z8 : Sn := ⟨0, 0, 0, 0, 0, false, false, 0⟩
/-- A ledger: how many it keeps, its greatest number, all that ever was given. -/
structure Lg where
  ring : Int
  limit : Int
  l : List Sn
def atN (g : Lg) (i : Nat) : Sn := g.l.getD i Z8
/-- How many numbers are kept no more. -/
def lowN (g : Lg) : Nat := g.l.length - g.ring.toNat
/-- The first that flies, from number k on. -/
def firstF : Nat → List Sn → Nat
  | k, [] => k
  | k, s :: t => if s.state = 1 then k else firstF (k + 1) t
def leastN (g : Lg) : Nat := firstF (lowN g) (g.l.drop (lowN g))
def roomI (g : Lg) : Int := g.ring - ((g.l.length : Int) - leastN g)
/-- The bytes of those that fly. -/
def fly : List Sn → Int
  | [] => 0
  | s :: t => (if s.state = 1 then s.len else 0) + fly t
def flight (g : Lg) : Int := fly (g.l.drop (lowN g))
def keptN (g : Lg) (pn : Int) : Prop := (lowN g : Int) ≤ pn ∧ pn < g.l.length
instance (g : Lg) (pn : Int) : Decidable (keptN g pn) := by unfold keptN; infer_instance
def getS (g : Lg) (pn : Int) : Sn := if keptN g pn then atN g pn.toNat else Z8
def hasN (g : Lg) (pn : Int) : Bool := decide (keptN g pn)
def allS (g : Lg) : List Sn := g.l.drop (lowN g)
/-- Why no number is given: 0 if one is. -/
def giveE (g : Lg) : Int := if (g.l.length : Int) > g.limit then 8 else if roomI g ≤ 0 then 7 else 0
def giveG (g : Lg) (s : Sn) : Lg := if giveE g = 0 then { g with l := g.l ++ [{ s with pn := g.l.length }] } else g
def giveN (g : Lg) : Int := if giveE g = 0 then g.l.length else 0
def badS (s : Sn) : Prop := s.len < 1 ∨ 1500 < s.len ∨ 4611686018427387903 < s.off
instance (s : Sn) : Decidable (badS s) := by unfold badS; infer_instance
def sendE (g : Lg) (s : Sn) : Int := if badS s then 1 else giveE g
def sendN (g : Lg) (s : Sn) : Int := if badS s then 0 else giveN g
def sendG (g : Lg) (s : Sn) : Lg := if badS s then g else giveG g { s with state := 1, used := false }
def skipG (g : Lg) : Lg := giveG g { Z8 with state := 4 }
def useB (g : Lg) (pn : Int) : Bool := decide (keptN g pn ∧ (atN g pn.toNat).state ≠ 4 ∧ (atN g pn.toNat).used = false)
def useG (g : Lg) (pn : Int) : Lg := if useB g pn = true then { g with l := g.l.set pn.toNat { atN g pn.toNat with used := true } } else g
def settleB (g : Lg) (pn st : Int) : Bool := decide (keptN g pn ∧ ((st = 2 ∧ ((atN g pn.toNat).state = 1 ∨ (atN g pn.toNat).state = 3)) ∨ (st = 3 ∧ (atN g pn.toNat).state = 1)))
def settleG (g : Lg) (pn st : Int) : Lg := if settleB g pn st = true then { g with l := g.l.set pn.toNat { atN g pn.toNat with state := st } } else g
def newG (ring limit : Int) : Lg := ⟨max 4 (min ring 256), min limit 4611686018427387903, []⟩

/-- The words of what is kept are words. -/
def Words (s : Sn) : Prop := 0 ≤ s.pn ∧ s.pn ≤ 18446744073709551615 ∧ 0 ≤ s.off ∧ s.off ≤ 18446744073709551615 ∧ 0 ≤ s.len ∧ s.len ≤ 18446744073709551615 ∧ 0 ≤ s.nonce ∧ s.nonce ≤ 18446744073709551615 ∧ 0 ≤ s.time ∧ s.time ≤ 18446744073709551615 ∧ -9223372036854775808 ≤ s.state ∧ s.state ≤ 9223372036854775807
/-- What holds of number i. -/
def Each (g : Lg) (i : Nat) (s : Sn) : Prop := s.pn = i ∧ Words s ∧ 1 ≤ s.state ∧ s.state ≤ 4 ∧ (s.state ≠ 4 → 1 ≤ s.len ∧ s.len ≤ 1500 ∧ s.off ≤ 4611686018427387903) ∧ (s.state = 4 → s.used = false) ∧ (s.state = 1 → lowN g ≤ i)
/-- A ledger that may be. -/
structure Ok (g : Lg) : Prop where
  r0 : 4 ≤ g.ring
  r1 : g.ring ≤ 256
  l0 : 0 ≤ g.limit
  l1 : g.limit ≤ 4611686018427387903
  n1 : (g.l.length : Int) ≤ g.limit + 1
  each : ∀ i, i < g.l.length → Each g i (atN g i)
theorem ok_new (ring limit : Int) (h : 0 ≤ limit) : Ok (newG ring limit) :=
  ⟨by unfold newG; simp only; omega, by unfold newG; simp only; omega, by unfold newG; simp only; omega, by unfold newG; simp only; omega, by unfold newG; simp only [List.length_nil]; omega, fun i hi => by simp [newG] at hi⟩
theorem first_ge : ∀ (k : Nat) (l : List Sn), k ≤ firstF k l
  | k, [] => Nat.le_refl _
  | k, s :: t => by
    unfold firstF
    split
    · exact Nat.le_refl _
    · have := first_ge (k + 1) t
      omega
theorem first_le : ∀ (k : Nat) (l : List Sn), firstF k l ≤ k + l.length
  | k, [] => Nat.le_refl _
  | k, s :: t => by
    unfold firstF
    split
    · omega
    · have := first_le (k + 1) t
      rw [List.length_cons]
      omega
/-- All ahead of the first that flies do not fly. -/
theorem first_pre : ∀ (k : Nat) (l : List Sn) (i : Nat), k + i < firstF k l → (l.getD i Z8).state ≠ 1
  | k, [], i, h => by unfold firstF at h; omega
  | k, s :: t, i, h => by
    unfold firstF at h
    split at h
    · omega
    · rename_i hs
      cases i with
      | zero => simpa using hs
      | succ i => simpa using first_pre (k + 1) t i (by omega)
theorem low_le (g : Lg) : lowN g ≤ g.l.length := by unfold lowN; omega
theorem least_ge (g : Lg) : lowN g ≤ leastN g := first_ge _ _
theorem least_le (g : Lg) : leastN g ≤ g.l.length := by
  have := first_le (lowN g) (g.l.drop (lowN g))
  have h := low_le g
  rw [List.length_drop] at this
  unfold leastN
  omega
theorem drop_getD (l : List Sn) (k i : Nat) : (l.drop k).getD i Z8 = l.getD (k + i) Z8 := by simp [List.getD]
/-- Ahead of the least one nothing flies. -/
theorem least_pre {g : Lg} (h : Ok g) {i : Nat} (hi : i < leastN g) : (atN g i).state ≠ 1 := by
  by_cases hl : i < lowN g
  · intro e
    have := (h.each i (by have := low_le g; omega)).2.2.2.2.2.2 e
    omega
  · have := first_pre (lowN g) (g.l.drop (lowN g)) (i - lowN g) (by unfold leastN at hi; omega)
    rw [drop_getD, show lowN g + (i - lowN g) = i by omega] at this
    exact this
theorem room_ge {g : Lg} (h : Ok g) : 0 ≤ roomI g := by
  have := h.r0
  have h1 := least_ge g
  have h2 := least_le g
  unfold roomI
  unfold lowN at h1
  omega
theorem room_le {g : Lg} (h : Ok g) : roomI g ≤ g.ring := by
  have h2 := least_le g
  unfold roomI
  omega
/-- One behind another keeps a list's other places. -/
theorem at_snoc_lt {g : Lg} {s : Sn} {i : Nat} (hi : i < g.l.length) : atN { g with l := g.l ++ [s] } i = atN g i := by
  unfold atN
  simp only [List.getD]
  rw [List.getElem?_append_left hi]
theorem at_snoc {g : Lg} {s : Sn} : atN { g with l := g.l ++ [s] } g.l.length = s := by
  unfold atN
  simp [List.getD]
theorem at_set_ne {g : Lg} {s : Sn} {k i : Nat} (h : k ≠ i) : atN { g with l := g.l.set k s } i = atN g i := by
  unfold atN
  simp only [List.getD]
  rw [List.getElem?_set_ne h]
theorem at_set {g : Lg} {s : Sn} {k : Nat} (h : k < g.l.length) : atN { g with l := g.l.set k s } k = s := by
  unfold atN
  simp [List.getD, h]
theorem ok_give {g : Lg} (h : Ok g) {s : Sn} (hs : Words s) (h1 : 1 ≤ s.state) (h4 : s.state ≤ 4) (hl : s.state ≠ 4 → 1 ≤ s.len ∧ s.len ≤ 1500 ∧ s.off ≤ 4611686018427387903) (hu : s.state = 4 → s.used = false) : Ok (giveG g s) := by
  unfold giveG
  split
  · rename_i he
    have r0 := h.r0
    have r1 := h.r1
    have l1 := h.l1
    have n1 := h.n1
    have hlim : (g.l.length : Int) ≤ g.limit := by
      unfold giveE at he
      split at he
      · cases he
      · omega
    have hroom : 0 < roomI g := by
      unfold giveE at he
      rw [if_neg (by omega)] at he
      split at he
      · cases he
      · omega
    refine ⟨h.r0, h.r1, h.l0, h.l1, by simp only [List.length_append, List.length_singleton]; omega, fun i hi => ?_⟩
    simp only [List.length_append, List.length_singleton] at hi
    by_cases e : i = g.l.length
    · subst e
      rw [at_snoc]
      refine ⟨rfl, ?_, h1, h4, hl, hu, fun _ => ?_⟩
      · unfold Words at hs ⊢
        simp only
        omega
      · unfold lowN
        simp only [List.length_append, List.length_singleton]
        omega
    · rw [at_snoc_lt (by omega)]
      obtain ⟨e1, e2, e3, e4, e5, e6, e7⟩ := h.each i (by omega)
      refine ⟨e1, e2, e3, e4, e5, e6, fun hf => ?_⟩
      have hp : leastN g ≤ i := by
        rcases Nat.lt_or_ge i (leastN g) with hlt | hge
        · exact absurd hf (least_pre h hlt)
        · exact hge
      unfold roomI at hroom
      unfold lowN
      simp only [List.length_append, List.length_singleton]
      omega
  · exact h
theorem ok_send {g : Lg} (h : Ok g) {s : Sn} (hs : Words s) : Ok (sendG g s) := by
  unfold sendG
  split
  · exact h
  · rename_i hb
    refine ok_give h ?_ (Int.le_refl _) (show (1 : Int) ≤ 4 by decide) (fun _ => ?_) (fun e => by cases e)
    · unfold Words at hs ⊢
      simp only
      omega
    · unfold badS at hb
      simp only
      omega
theorem ok_skip {g : Lg} (h : Ok g) : Ok (skipG g) := ok_give h (by unfold Words Z8; decide) (by decide) (by decide) (fun e => absurd rfl e) (fun _ => rfl)
theorem low_set (g : Lg) (k : Nat) (s : Sn) : lowN { g with l := g.l.set k s } = lowN g := by unfold lowN; simp
theorem ok_set {g : Lg} (h : Ok g) {k : Nat} {s : Sn} (hk : k < g.l.length) (hs : Each g k s) : Ok { g with l := g.l.set k s } :=
  ⟨h.r0, h.r1, h.l0, h.l1, by simp only [List.length_set]; exact h.n1, fun i hi => by
    simp only [List.length_set] at hi
    unfold Each
    rw [low_set]
    by_cases e : k = i
    · subst e
      rw [at_set hk]
      exact hs
    · rw [at_set_ne e]
      exact h.each i hi⟩
theorem ok_use {g : Lg} (h : Ok g) (pn : Int) : Ok (useG g pn) := by
  unfold useG
  split
  · rename_i hu
    obtain ⟨⟨k0, k1⟩, h4, h5⟩ := of_decide_eq_true hu
    have hk : pn.toNat < g.l.length := by omega
    obtain ⟨e1, e2, e3, e4, e5, e6, e7⟩ := h.each _ hk
    exact ok_set h hk ⟨e1, e2, e3, e4, e5, fun e => absurd e h4, e7⟩
  · exact h
theorem ok_settle {g : Lg} (h : Ok g) (pn st : Int) : Ok (settleG g pn st) := by
  unfold settleG
  split
  · rename_i hu
    obtain ⟨⟨k0, k1⟩, h4⟩ := of_decide_eq_true hu
    have hk : pn.toNat < g.l.length := by omega
    obtain ⟨e1, e2, e3, e4, e5, e6, e7⟩ := h.each _ hk
    refine ok_set h hk ⟨e1, ?_, ?_, ?_, ?_, ?_, ?_⟩
    · unfold Words at e2 ⊢
      simp only
      omega
    · simp only
      omega
    · simp only
      omega
    · intro _
      exact e5 (by omega)
    · simp only
      omega
    · simp only
      omega
  · exact h
theorem send_len (g : Lg) (s : Sn) : (sendG g s).l.length ≤ g.l.length + 1 := by
  unfold sendG giveG
  split
  · omega
  · split
    · simp
    · omega
theorem skip_len (g : Lg) : (skipG g).l.length ≤ g.l.length + 1 := by
  unfold skipG giveG
  split
  · simp
  · omega
theorem use_len (g : Lg) (pn : Int) : (useG g pn).l.length = g.l.length := by
  unfold useG
  split
  · simp
  · rfl
theorem settle_len (g : Lg) (pn st : Int) : (settleG g pn st).l.length = g.l.length := by
  unfold settleG
  split
  · simp
  · rfl
theorem kept_len (g : Lg) : (allS g).length = g.l.length - lowN g := by unfold allS; rw [List.length_drop]
/-- What flies comes to less than a word. -/
theorem fly_le : ∀ (l : List Sn), (∀ s ∈ l, s.state = 1 → 0 ≤ s.len ∧ s.len ≤ 1500) → 0 ≤ fly l ∧ fly l ≤ 1500 * (l.length : Int)
  | [], _ => by simp [fly]
  | s :: t, h => by
    have h1 := fly_le t fun s hs => h s (List.mem_cons_of_mem _ hs)
    unfold fly
    rw [List.length_cons]
    split
    · rename_i e
      have := h s List.mem_cons_self e
      omega
    · omega
end Go.Proofs.YtkiloaebokkjbaaGreat.LedPlain

/-
  A budget as the document defines it: how many, in how long, the greatest time so far, the times of all grants. Plain.
-/
set_option linter.unusedSimpArgs false
set_option linter.unusedVariables false
namespace Go.Proofs.YtkiloaebokkjbaaGreat.BudPlain
set_option linter.unusedVariables false

structure Bg where
  most : Int
  every : Int
  last : Int
  l : List Int
/-- How many of some times lie less than every behind now. -/
def near (every now : Int) : List Int → Int
  | [] => 0
  | t :: r => (if Sat.sub now t < every then 1 else 0) + near every now r
def nowB (b : Bg) (now : Int) : Int := max b.last now
def grants (b : Bg) (now : Int) : Bool := decide (near b.every (nowB b now) b.l < b.most)
def askG (b : Bg) (now : Int) : Bg := { b with last := nowB b now, l := if grants b now = true then b.l ++ [nowB b now] else b.l }
def newB (most every : Int) : Bg := ⟨max 0 (min most 64), every, 0, []⟩
structure BOk (b : Bg) : Prop where
  m0 : 0 ≤ b.most
  m1 : b.most ≤ 64
  e0 : 0 ≤ b.every
  e1 : b.every ≤ 18446744073709551615
  t0 : 0 ≤ b.last
  t1 : b.last ≤ 18446744073709551615
  all : ∀ t ∈ b.l, 0 ≤ t ∧ t ≤ b.last
theorem ok_newB (most : Int) {every : Int} (h0 : 0 ≤ every) (h1 : every ≤ 18446744073709551615) : BOk (newB most every) :=
  ⟨by unfold newB; simp only; omega, by unfold newB; simp only; omega, h0, h1, Int.le_refl _, by unfold newB; simp only; omega, fun t ht => by cases ht⟩
theorem ok_ask {b : Bg} (h : BOk b) {now : Int} (h0 : 0 ≤ now) (h1 : now ≤ 18446744073709551615) : BOk (askG b now) := by
  have t0 := h.t0
  have t1 := h.t1
  refine ⟨h.m0, h.m1, h.e0, h.e1, ?_, ?_, fun t ht => ?_⟩
  · unfold askG nowB; simp only; omega
  · unfold askG nowB; simp only; omega
  · have hn : (askG b now).last = max b.last now := rfl
    rw [hn]
    have hl : ∀ t ∈ b.l, 0 ≤ t ∧ t ≤ max b.last now := fun t ht => by have := h.all t ht; omega
    unfold askG at ht
    simp only at ht
    split at ht
    · rcases List.mem_append.1 ht with ht | ht
      · exact hl t ht
      · obtain rfl : t = nowB b now := by simpa using ht
        unfold nowB
        omega
    · exact hl t ht
theorem ask_len (b : Bg) (now : Int) : (askG b now).l.length ≤ b.l.length + 1 := by
  unfold askG
  simp only
  split
  · simp
  · omega
theorem near_nonneg (e now : Int) : ∀ l : List Int, 0 ≤ near e now l ∧ near e now l ≤ l.length
  | [] => by simp [near]
  | t :: r => by
    have := near_nonneg e now r
    rw [near, List.length_cons]
    split <;> omega
theorem near_append (e now : Int) : ∀ a b : List Int, near e now (a ++ b) = near e now a + near e now b
  | [], b => by simp [near]
  | t :: r, b => by rw [List.cons_append, near, near, near_append e now r b]; omega
theorem near_take {e now : Int} {l : List Int} {k : Nat} (h : k < l.length) : near e now (l.take (k + 1)) = near e now (l.take k) + if Sat.sub now (l.getD k 0) < e then 1 else 0 := by
  rw [List.take_add_one, near_append, show l[k]? = some (l.getD k 0) by simp [List.getD, h]]
  simp [near]
/-- How many of some times lie in an interval. -/
def inW (f e : Int) : List Int → Int
  | [] => 0
  | t :: r => (if f ≤ t ∧ t - f < e then 1 else 0) + inW f e r
theorem inW_append (f e : Int) : ∀ a b : List Int, inW f e (a ++ b) = inW f e a + inW f e b
  | [], b => by simp [inW]
  | t :: r, b => by rw [List.cons_append, inW, inW, inW_append f e r b]; omega
theorem inW_nonneg (f e : Int) : ∀ l : List Int, 0 ≤ inW f e l ∧ inW f e l ≤ l.length
  | [] => by simp [inW]
  | t :: r => by
    have := inW_nonneg f e r
    rw [inW, List.length_cons]
    split <;> omega
theorem inW_near {f e now : Int} (h1 : f ≤ now) (h2 : now - f < e) : ∀ l : List Int, (∀ t ∈ l, t ≤ now) → inW f e l ≤ near e now l
  | [], _ => Int.le_refl _
  | t :: r, h => by
    have ht := h t (by simp)
    have ih := inW_near h1 h2 r fun x hx => h x (by simp [hx])
    rw [inW, near]
    have hs : Sat.sub now t = now - t := by unfold Sat.sub; rw [if_neg (by omega)]
    rw [hs]
    split
    · rename_i hc
      rw [if_pos (by omega)]
      omega
    · split <;> omega
/-- What an interval sees of a budget that is asked at no earlier time. -/
theorem ask_holds {b : Bg} (h : BOk b) {f e now : Int} (he : b.every = e) (hn : b.last ≤ now) (hw : inW f e b.l ≤ b.most) :
    inW f e (askG b now).l ≤ b.most ∧ inW f e (askG b now).l = inW f e b.l + if grants b now = true ∧ f ≤ now ∧ now - f < e then 1 else 0 := by
  have hN : nowB b now = now := by unfold nowB; omega
  unfold askG
  simp only
  rw [hN]
  by_cases hg : grants b now = true
  · rw [if_pos hg, inW_append]
    have h1 : inW f e [now] = if f ≤ now ∧ now - f < e then 1 else 0 := by simp [inW]
    rw [h1]
    by_cases hi : f ≤ now ∧ now - f < e
    · rw [if_pos hi, if_pos ⟨hg, hi⟩]
      have h2 := inW_near hi.1 hi.2 b.l fun t ht => by have := h.all t ht; omega
      unfold grants at hg
      rw [hN, he] at hg
      have := of_decide_eq_true hg
      omega
    · rw [if_neg hi, if_neg (fun h => hi h.2)]
      omega
  · rw [if_neg hg, if_neg (fun h => hg h.1)]
    omega
theorem near_zero {e N : Int} (h0 : 0 ≤ e) : ∀ l : List Int, (∀ t ∈ l, t ≤ N ∧ e ≤ N - t) → near e N l = 0
  | [], _ => rfl
  | t :: r, h => by
    have ht := h t (by simp)
    have hs : Sat.sub N t = N - t := by unfold Sat.sub; rw [if_neg (by omega)]
    rw [near, hs, if_neg (by omega), near_zero h0 r fun x hx => h x (by simp [hx])]
    rfl
theorem near_rep {e N t : Int} (ht : t ≤ N) : ∀ i : Nat, near e N (List.replicate i t) = if N - t < e then (i : Int) else 0
  | 0 => by simp [near]
  | i + 1 => by
    have hs : Sat.sub N t = N - t := by unfold Sat.sub; rw [if_neg (by omega)]
    rw [List.replicate_succ, near, hs, near_rep ht i]
    split <;> omega
/-- A budget that rested, and granted i times since. -/
structure Rested (b : Bg) (m e now : Int) (i : Nat) : Prop where
  most : b.most = m
  every : b.every = e
  last : b.last ≤ now
  l : ∃ old, b.l = old ++ List.replicate i now ∧ ∀ t ∈ old, e ≤ now - t ∧ t ≤ now
theorem Rested.near {b : Bg} {m e now : Int} {i : Nat} (h : Rested b m e now i) (h0 : 0 ≤ e) {N : Int} (hN : now ≤ N) : near e N b.l = if N - now < e then (i : Int) else 0 := by
  obtain ⟨old, hl, ho⟩ := h.l
  rw [hl, near_append, near_rep hN, near_zero h0 old fun t ht => by have := ho t ht; omega]
  omega
theorem Rested.grants {b : Bg} {m e now : Int} {i : Nat} (h : Rested b m e now i) (h0 : 0 ≤ e) {N : Int} (hN : now ≤ N) (hl : b.last ≤ N) : grants b N = decide ((if N - now < e then (i : Int) else 0) < m) := by
  have hn : nowB b N = N := by unfold nowB; omega
  unfold BudPlain.grants
  rw [hn, h.every, h.near h0 hN, h.most]
theorem Rested.more {b : Bg} {m e now : Int} {i : Nat} (h : Rested b m e now i) (h0 : 1 ≤ e) (hi : (i : Int) < m) : BudPlain.grants b now = true ∧ Rested (askG b now) m e now (i + 1) := by
  have hg : BudPlain.grants b now = true := by
    rw [h.grants (by omega) (Int.le_refl _) h.last, if_pos (by omega)]
    exact decide_eq_true hi
  have hn : nowB b now = now := by unfold nowB; have := h.last; omega
  obtain ⟨old, hl, ho⟩ := h.l
  refine ⟨hg, h.most, h.every, ?_, old, ?_, ho⟩
  · show nowB b now ≤ now
    rw [hn]
    exact Int.le_refl _
  · show (if BudPlain.grants b now = true then b.l ++ [nowB b now] else b.l) = _
    rw [if_pos hg, hn, hl, List.append_assoc, List.replicate_succ']
end Go.Proofs.YtkiloaebokkjbaaGreat.BudPlain
