/-
  A budget as the document defines it: how many, in how long, the greatest time so far, the times of all grants. Plain.
-/
import Derived.Test.YtienikpnpphklaaSatPlain
set_option linter.unusedSimpArgs false
set_option linter.unusedVariables false
namespace Go.Proofs.Ytienikpnpphklaa.BudPlain
set_option linter.unusedVariables false

structure Bg where
  most : Int
  every : Int
  last : Int
  l : List Int
/-- How many of some times lie less than every behind now. -/
def near (every now : Int) : List Int → Int
  | [] => 0
  | t :: r => (if Sat.sub now t < every then 1 else 0) + near every now r
def nowB (b : Bg) (now : Int) : Int := max b.last now
def grants (b : Bg) (now : Int) : Bool := decide (near b.every (nowB b now) b.l < b.most)
def askG (b : Bg) (now : Int) : Bg := { b with last := nowB b now, l := if grants b now = true then b.l ++ [nowB b now] else b.l }
def newB (most every : Int) : Bg := ⟨max 0 (min most 64), every, 0, []⟩
structure BOk (b : Bg) : Prop where
  m0 : 0 ≤ b.most
  m1 : b.most ≤ 64
  e0 : 0 ≤ b.every
  e1 : b.every ≤ 18446744073709551615
  t0 : 0 ≤ b.last
  t1 : b.last ≤ 18446744073709551615
  all : ∀ t ∈ b.l, 0 ≤ t ∧ t ≤ b.last
theorem ok_newB (most : Int) {every : Int} (h0 : 0 ≤ every) (h1 : every ≤ 18446744073709551615) : BOk (newB most every) :=
  ⟨by unfold newB; simp only; omega, by unfold newB; simp only; omega, h0, h1, Int.le_refl _, by unfold newB; simp only; omega, fun t ht => by cases ht⟩
theorem ok_ask {b : Bg} (h : BOk b) {now : Int} (h0 : 0 ≤ now) (h1 : now ≤ 18446744073709551615) : BOk (askG b now) := by
  have t0 := h.t0
  have t1 := h.t1
  refine ⟨h.m0, h.m1, h.e0, h.e1, ?_, ?_, fun t ht => ?_⟩
  · unfold askG nowB; simp only; omega
  · unfold askG nowB; simp only; omega
  · have hn : (askG b now).last = max b.last now := rfl
    rw [hn]
    have hl : ∀ t ∈ b.l, 0 ≤ t ∧ t ≤ max b.last now := fun t ht => by have := h.all t ht; omega
    unfold askG at ht
    simp only at ht
    split at ht
    · rcases List.mem_append.1 ht with ht | ht
      · exact hl t ht
      · obtain rfl : t = nowB b now := by simpa using ht
        unfold nowB
        omega
    · exact hl t ht
theorem ask_len (b : Bg) (now : Int) : (askG b now).l.length ≤ b.l.length + 1 := by
  unfold askG
  simp only
  split
  · simp
  · omega
theorem near_nonneg (e now : Int) : ∀ l : List Int, 0 ≤ near e now l ∧ near e now l ≤ l.length
  | [] => by simp [near]
  | t :: r => by
    have := near_nonneg e now r
    rw [near, List.length_cons]
    split <;> omega
theorem near_append (e now : Int) : ∀ a b : List Int, near e now (a ++ b) = near e now a + near e now b
  | [], b => by simp [near]
  | t :: r, b => by rw [List.cons_append, near, near, near_append e now r b]; omega
theorem near_take {e now : Int} {l : List Int} {k : Nat} (h : k < l.length) : near e now (l.take (k + 1)) = near e now (l.take k) + if Sat.sub now (l.getD k 0) < e then 1 else 0 := by
  rw [List.take_add_one, near_append, show l[k]? = some (l.getD k 0) by simp [List.getD, h]]
  simp [near]
/-- How many of some times lie in an interval. -/
def inW (f e : Int) : List Int → Int
  | [] => 0
  | t :: r => (if f ≤ t ∧ t - f < e then 1 else 0) + inW f e r
theorem inW_append (f e : Int) : ∀ a b : List Int, inW f e (a ++ b) = inW f e a + inW f e b
  | [], b => by simp [inW]
  | t :: r, b => by rw [List.cons_append, inW, inW, inW_append f e r b]; omega
theorem inW_nonneg (f e : Int) : ∀ l : List Int, 0 ≤ inW f e l ∧ inW f e l ≤ l.length
  | [] => by simp [inW]
  | t :: r => by
    have := inW_nonneg f e r
    rw [inW, List.length_cons]
    split <;> omega
theorem inW_near {f e now : Int} (h1 : f ≤ now) (h2 : now - f < e) : ∀ l : List Int, (∀ t ∈ l, t ≤ now) → inW f e l ≤ near e now l
  | [], _ => Int.le_refl _
  | t :: r, h => by
    have ht := h t (by simp)
    have ih := inW_near h1 h2 r fun x hx => h x (by simp [hx])
    rw [inW, near]
    have hs : Sat.sub now t = now - t := by unfold Sat.sub; rw [if_neg (by omega)]
    rw [hs]
    split
    · rename_i hc
      rw [if_pos (by omega)]
      omega
    · split <;> omega
/-- What an interval sees of a budget that is asked at no earlier time. -/
theorem ask_holds {b : Bg} (h : BOk b) {f e now : Int} (he : b.every = e) (hn : b.last ≤ now) (hw : inW f e b.l ≤ b.most) :
    inW f e (askG b now).l ≤ b.most ∧ inW f e (askG b now).l = inW f e b.l + if grants b now = true ∧ f ≤ now ∧ now - f < e then 1 else 0 := by
  have hN : nowB b now = now := by unfold nowB; omega
  unfold askG
  simp only
  rw [hN]
  by_cases hg : grants b now = true
  · rw [if_pos hg, inW_append]
    have h1 : inW f e [now] = if f ≤ now ∧ now - f < e then 1 else 0 := by simp [inW]
    rw [h1]
    by_cases hi : f ≤ now ∧ now - f < e
    · rw [if_pos hi, if_pos ⟨hg, hi⟩]
      have h2 := inW_near hi.1 hi.2 b.l fun t ht => by have := h.all t ht; omega
      unfold grants at hg
      rw [hN, he] at hg
      have := of_decide_eq_true hg
      omega
    · rw [if_neg hi, if_neg (fun h => hi h.2)]
      omega
  · rw [if_neg hg, if_neg (fun h => hg h.1)]
    omega
theorem near_zero {e N : Int} (h0 : 0 ≤ e) : ∀ l : List Int, (∀ t ∈ l, t ≤ N ∧ e ≤ N - t) → near e N l = 0
  | [], _ => rfl
  | t :: r, h => by
    have ht := h t (by simp)
    have hs : Sat.sub N t = N - t := by unfold Sat.sub; rw [if_neg (by omega)]
    rw [near, hs, if_neg (by omega), near_zero h0 r fun x hx => h x (by simp [hx])]
    rfl
theorem near_rep {e N t : Int} (ht : t ≤ N) : ∀ i : Nat, near e N (List.replicate i t) = if N - t < e then (i : Int) else 0
  | 0 => by simp [near]
  | i + 1 => by
    have hs : Sat.sub N t = N - t := by unfold Sat.sub; rw [if_neg (by omega)]
    rw [List.replicate_succ, near, hs, near_rep ht i]
    split <;> omega
/-- A budget that rested, and granted i times since. -/
structure Rested (b : Bg) (m e now : Int) (i : Nat) : Prop where
  most : b.most = m
  every : b.every = e
  last : b.last ≤ now
  l : ∃ old, b.l = old ++ List.replicate i now ∧ ∀ t ∈ old, e ≤ now - t ∧ t ≤ now
theorem Rested.near {b : Bg} {m e now : Int} {i : Nat} (h : Rested b m e now i) (h0 : 0 ≤ e) {N : Int} (hN : now ≤ N) : near e N b.l = if N - now < e then (i : Int) else 0 := by
  obtain ⟨old, hl, ho⟩ := h.l
  rw [hl, near_append, near_rep hN, near_zero h0 old fun t ht => by have := ho t ht; omega]
  omega
theorem Rested.grants {b : Bg} {m e now : Int} {i : Nat} (h : Rested b m e now i) (h0 : 0 ≤ e) {N : Int} (hN : now ≤ N) (hl : b.last ≤ N) : grants b N = decide ((if N - now < e then (i : Int) else 0) < m) := by
  have hn : nowB b N = N := by unfold nowB; omega
  unfold BudPlain.grants
  rw [hn, h.every, h.near h0 hN, h.most]
theorem Rested.more {b : Bg} {m e now : Int} {i : Nat} (h : Rested b m e now i) (h0 : 1 ≤ e) (hi : (i : Int) < m) : BudPlain.grants b now = true ∧ Rested (askG b now) m e now (i + 1) := by
  have hg : BudPlain.grants b now = true := by
    rw [h.grants (by omega) (Int.le_refl _) h.last, if_pos (by omega)]
    exact decide_eq_true hi
  have hn : nowB b now = now := by unfold nowB; have := h.last; omega
  obtain ⟨old, hl, ho⟩ := h.l
  refine ⟨hg, h.most, h.every, ?_, old, ?_, ho⟩
  · show nowB b now ≤ now
    rw [hn]
    exact Int.le_refl _
  · show (if BudPlain.grants b now = true then b.l ++ [nowB b now] else b.l) = _
    rw [if_pos hg, hn, hl, List.append_assoc, List.replicate_succ']
theorem refused {b : Bg} {N : Int} (h : BudPlain.grants b N = false) : askG b N = { b with last := nowB b N } := by
  unfold askG
  rw [h]
  rfl
/-- Who granted all that may be refuses until the interval is over. -/
theorem Rested.full {b : Bg} {m e now : Int} {i : Nat} (h : Rested b m e now i) (h0 : 1 ≤ e) (hi : (i : Int) = m) (hm : 0 < m) :
    BudPlain.grants b now = false ∧ BudPlain.grants (askG b now) (now + (e - 1)) = false ∧ BudPlain.grants (askG (askG b now) (now + (e - 1))) (now + e) = true := by
  have g1 : BudPlain.grants b now = false := by
    rw [h.grants (by omega) (Int.le_refl _) h.last, if_pos (by omega)]
    exact decide_eq_false (by omega)
  have hn : nowB b now = now := by unfold nowB; have := h.last; omega
  have a1 := refused g1
  rw [hn] at a1
  have r1 : Rested (askG b now) m e now i := by
    rw [a1]
    exact ⟨h.most, h.every, Int.le_refl _, h.l⟩
  have l1 : (askG b now).last = now := by rw [a1]
  have g2 : BudPlain.grants (askG b now) (now + (e - 1)) = false := by
    rw [r1.grants (by omega) (by omega) (by rw [l1]; omega), if_pos (by omega)]
    exact decide_eq_false (by omega)
  have hn2 : nowB (askG b now) (now + (e - 1)) = now + (e - 1) := by unfold nowB; rw [l1]; omega
  have a2 := refused g2
  rw [hn2] at a2
  refine ⟨g1, g2, ?_⟩
  have hn3 : nowB (askG (askG b now) (now + (e - 1))) (now + e) = now + e := by rw [a2]; unfold nowB; simp only; omega
  have e1 : (askG (askG b now) (now + (e - 1))).every = e := r1.every
  have m1 : (askG (askG b now) (now + (e - 1))).most = m := r1.most
  have n1 : (askG (askG b now) (now + (e - 1))).l = (askG b now).l := by rw [a2]
  unfold BudPlain.grants
  rw [hn3, e1, m1, n1, r1.near (by omega) (by omega), if_neg (by omega)]
  exact decide_eq_true hm
end Go.Proofs.Ytienikpnpphklaa.BudPlain
