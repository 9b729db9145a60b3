/-
  Prefix sums: exclusive ors, parities: plain facts. Nothing here names a program.
-/
import Derived.Laws.Bits64
import Derived.Lib.Walk
set_option linter.unusedSimpArgs false
set_option linter.unusedVariables false
namespace Go.Proofs.Ytoncominjgkjoaa.FoldPlain
set_option linter.unusedVariables false

/-- A list's numbers lie in a word. -/
def W64 (l : List Int) : Prop := ∀ x ∈ l, 0 ≤ x ∧ x ≤ 18446744073709551615
theorem W64.get {l : List Int} (h : W64 l) (i : Nat) : 0 ≤ l.getD i 0 ∧ l.getD i 0 ≤ 18446744073709551615 := by
  rw [List.getD_eq_getElem?_getD]
  cases hx : l[i]? with
  | none => exact ⟨Int.le_refl _, by decide⟩
  | some x => exact h x (List.mem_of_getElem? hx)
theorem W64.take {l : List Int} (h : W64 l) (i : Nat) : W64 (l.take i) := fun x hx => h x (List.mem_of_mem_take hx)
/-- The exclusive or of two words. -/
def xr (a b : Int) : Int := bits .xor .u64 a b
theorem xr_nat {a b : Int} (a0 : 0 ≤ a) (a1 : a ≤ 18446744073709551615) (b0 : 0 ≤ b) (b1 : b ≤ 18446744073709551615) : ∃ A B : Nat, a = A ∧ b = B ∧ A < 18446744073709551616 ∧ B < 18446744073709551616 ∧ xr a b = ((A ^^^ B : Nat) : Int) ∧ A ^^^ B < 18446744073709551616 := by
  obtain ⟨A, rfl⟩ := Int.eq_ofNat_of_zero_le a0
  obtain ⟨B, rfl⟩ := Int.eq_ofNat_of_zero_le b0
  have hA : A < 18446744073709551616 := by omega
  have hB : B < 18446744073709551616 := by omega
  exact ⟨A, B, rfl, rfl, hA, hB, bits_xor_u64_nat A B hA hB, Nat.xor_lt_two_pow (n := 64) hA hB⟩
theorem xr_bd {a b : Int} (a0 : 0 ≤ a) (a1 : a ≤ 18446744073709551615) (b0 : 0 ≤ b) (b1 : b ≤ 18446744073709551615) : 0 ≤ xr a b ∧ xr a b ≤ 18446744073709551615 := by
  obtain ⟨A, B, _, _, _, _, e, h⟩ := xr_nat a0 a1 b0 b1
  rw [e]
  omega
theorem xr_self {a : Int} (a0 : 0 ≤ a) (a1 : a ≤ 18446744073709551615) : xr a a = 0 := by
  obtain ⟨A, B, h1, h2, _, _, e, h⟩ := xr_nat a0 a1 a0 a1
  obtain rfl : A = B := by omega
  rw [e, Nat.xor_self]
  rfl
theorem xr_comm {a b : Int} (a0 : 0 ≤ a) (a1 : a ≤ 18446744073709551615) (b0 : 0 ≤ b) (b1 : b ≤ 18446744073709551615) : xr a b = xr b a := by
  obtain ⟨A, B, rfl, rfl, hA, hB, e, h⟩ := xr_nat a0 a1 b0 b1
  rw [e, Nat.xor_comm]
  exact (bits_xor_u64_nat B A hB hA).symm
theorem xr_assoc {a b c : Int} (a0 : 0 ≤ a) (a1 : a ≤ 18446744073709551615) (b0 : 0 ≤ b) (b1 : b ≤ 18446744073709551615) (c0 : 0 ≤ c) (c1 : c ≤ 18446744073709551615) : xr (xr a b) c = xr a (xr b c) := by
  obtain ⟨A, B, rfl, rfl, hA, hB, e, h⟩ := xr_nat a0 a1 b0 b1
  obtain ⟨B', C, hb, rfl, _, hC, e', h'⟩ := xr_nat b0 b1 c0 c1
  obtain rfl : B = B' := by omega
  rw [e, e']
  show bits .xor .u64 _ _ = bits .xor .u64 _ _
  rw [bits_xor_u64_nat _ _ h hC, bits_xor_u64_nat _ _ hA h', Nat.xor_assoc]
theorem xr_cancel {a b c : Int} (a0 : 0 ≤ a) (a1 : a ≤ 18446744073709551615) (b0 : 0 ≤ b) (b1 : b ≤ 18446744073709551615) (c0 : 0 ≤ c) (c1 : c ≤ 18446744073709551615) : xr (xr a b) (xr b c) = xr a c := by
  obtain ⟨A, B, rfl, rfl, hA, hB, e, h⟩ := xr_nat a0 a1 b0 b1
  obtain ⟨B', C, hb, rfl, _, hC, e', h'⟩ := xr_nat b0 b1 c0 c1
  obtain rfl : B = B' := by omega
  rw [e, e']
  show bits .xor .u64 _ _ = bits .xor .u64 _ _
  rw [bits_xor_u64_nat _ _ h h', bits_xor_u64_nat _ _ hA hC, Nat.xor_assoc, ← Nat.xor_assoc B B C, Nat.xor_self, Nat.zero_xor]
/-- The exclusive or of the first i. -/
def xs (l : List Int) (i : Nat) : Int := (l.take i).foldl (fun a x => xr a x) 0
theorem xs_zero (l : List Int) : xs l 0 = 0 := rfl
theorem take_step {α : Type} {l : List α} {i : Nat} (h : i < l.length) (d : α) : l.take (i + 1) = l.take i ++ [l.getD i d] := by
  rw [List.take_add_one, List.getD_eq_getElem?_getD, List.getElem?_eq_getElem h]
  rfl
theorem xs_succ {l : List Int} {i : Nat} (h : i < l.length) : xs l (i + 1) = xr (xs l i) (l.getD i 0) := by
  unfold xs
  rw [take_step h 0, List.foldl_append]
  rfl
theorem fold_bd : ∀ {l : List Int} {a : Int}, W64 l → 0 ≤ a → a ≤ 18446744073709551615 → 0 ≤ l.foldl (fun a x => xr a x) a ∧ l.foldl (fun a x => xr a x) a ≤ 18446744073709551615
  | [], a, _, h0, h1 => ⟨h0, h1⟩
  | x :: r, a, h, h0, h1 => by
    have hx := h x (List.mem_cons_self ..)
    have hb := xr_bd h0 h1 hx.1 hx.2
    exact fold_bd (l := r) (fun y hy => h y (List.mem_cons_of_mem _ hy)) hb.1 hb.2
theorem xs_bd {l : List Int} (h : W64 l) (i : Nat) : 0 ≤ xs l i ∧ xs l i ≤ 18446744073709551615 := fold_bd (h.take i) (Int.le_refl _) (by decide)
/-- The sums of the first beginnings, up to that of k numbers. -/
def pre (l : List Int) (k : Nat) : List Int := (List.range (k + 1)).map (xs l)
theorem pre_zero (l : List Int) : pre l 0 = [0] := rfl
theorem pre_succ (l : List Int) (k : Nat) : pre l (k + 1) = pre l k ++ [xs l (k + 1)] := by
  unfold pre
  rw [List.range_succ, List.map_append]
  rfl
theorem pre_len (l : List Int) (k : Nat) : (pre l k).length = k + 1 := by simp [pre]
theorem pre_get {l : List Int} {k i : Nat} (h : i ≤ k) : (pre l k).getD i 0 = xs l i := by
  rw [List.getD_eq_getElem?_getD, pre, List.getElem?_map, List.getElem?_range (by omega)]
  rfl
theorem pre_w {l : List Int} (h : W64 l) (k : Nat) : W64 (pre l k) := fun x hx => by
  obtain ⟨i, _, rfl⟩ := List.mem_map.1 hx
  exact xs_bd h i
/-- All sums. -/
def sums (l : List Int) : List Int := pre l l.length
/-- The parity of the first i. -/
def os (l : List Bool) (i : Nat) : Bool := (l.take i).foldl (fun a x => a != x) false
theorem os_zero (l : List Bool) : os l 0 = false := rfl
theorem os_succ {l : List Bool} {i : Nat} (h : i < l.length) : os l (i + 1) = (os l i != l.getD i false) := by
  unfold os
  rw [take_step h false, List.foldl_append]
  rfl
def opre (l : List Bool) (k : Nat) : List Bool := (List.range (k + 1)).map (os l)
theorem opre_zero (l : List Bool) : opre l 0 = [false] := rfl
theorem opre_succ (l : List Bool) (k : Nat) : opre l (k + 1) = opre l k ++ [os l (k + 1)] := by
  unfold opre
  rw [List.range_succ, List.map_append]
  rfl
theorem opre_len (l : List Bool) (k : Nat) : (opre l k).length = k + 1 := by simp [opre]
theorem opre_get {l : List Bool} {k i : Nat} (h : i ≤ k) : (opre l k).getD i false = os l i := by
  rw [List.getD_eq_getElem?_getD, opre, List.getElem?_map, List.getElem?_range (by omega)]
  rfl
def odds (l : List Bool) : List Bool := opre l l.length
/-- One coin turned: the parities behind it. -/
theorem os_turn {l : List Bool} {k : Nat} (hk : k < l.length) : ∀ i, i ≤ l.length → os (l.set k (!l.getD k false)) i = (os l i != decide (k < i))
  | 0, _ => by simp [os_zero]
  | i + 1, hi => by
    have ih := os_turn hk i (by omega)
    rw [os_succ (by rw [List.length_set]; omega), os_succ (by omega), ih]
    by_cases h : i = k
    · subst h
      have : (l.set i (!l.getD i false)).getD i false = !l.getD i false := by simp [List.getD, hk]
      rw [this, decide_eq_false (by omega), decide_eq_true (by omega)]
      cases os l i <;> cases l.getD i false <;> rfl
    · have : (l.set k (!l.getD k false)).getD i false = l.getD i false := by
        simp only [List.getD_eq_getElem?_getD, List.getElem?_set_ne (Ne.symm h)]
      rw [this]
      by_cases h2 : k < i
      · rw [decide_eq_true h2, decide_eq_true (by omega)]
        cases os l i <;> cases l.getD i false <;> rfl
      · rw [decide_eq_false h2, decide_eq_false (by omega)]
        cases os l i <;> cases l.getD i false <;> rfl
/-- Whether two places may be asked for, and what is told of them. -/
def overB (n f t : Int) : Bool := decide (0 ≤ f) && decide (f ≤ t) && decide (t < n)
def overV (l : List Int) (f t : Int) : Int := if overB l.length f t then xr (l.getD f.toNat 0) (l.getD t.toNat 0) else 0
def oddV (l : List Bool) (f t : Int) : Bool := if overB l.length f t then (l.getD f.toNat false != l.getD t.toNat false) else false
theorem overB_true {n f t : Int} (h0 : 0 ≤ f) (h1 : f ≤ t) (h2 : t < n) : overB n f t = true := by simp [overB, h0, h1, h2]
theorem overB_false {n f t : Int} (h : f < 0 ∨ t < f ∨ n ≤ t) : overB n f t = false := by
  unfold overB
  rcases h with h | h | h
  · rw [decide_eq_false (by omega : ¬ 0 ≤ f)]; rfl
  · rw [decide_eq_false (by omega : ¬ f ≤ t)]; simp
  · rw [decide_eq_false (by omega : ¬ t < n)]; simp
theorem overV_at {l : List Int} {f t : Nat} (h1 : f ≤ t) (h2 : t < l.length) : overV l f t = xr (l.getD f 0) (l.getD t 0) := by
  unfold overV
  rw [overB_true (by omega) (by omega) (by omega), if_pos rfl, Int.toNat_natCast, Int.toNat_natCast]
theorem overV_none {l : List Int} {f t : Int} (h : f < 0 ∨ t < f ∨ (l.length : Int) ≤ t) : overV l f t = 0 := by
  unfold overV
  rw [overB_false h]
  rfl
theorem oddV_at {l : List Bool} {f t : Nat} (h1 : f ≤ t) (h2 : t < l.length) : oddV l f t = (l.getD f false != l.getD t false) := by
  unfold oddV
  rw [overB_true (by omega) (by omega) (by omega), if_pos rfl, Int.toNat_natCast, Int.toNat_natCast]
theorem oddV_none {l : List Bool} {f t : Int} (h : f < 0 ∨ t < f ∨ (l.length : Int) ≤ t) : oddV l f t = false := by
  unfold oddV
  rw [overB_false h]
  rfl
end Go.Proofs.Ytoncominjgkjoaa.FoldPlain
