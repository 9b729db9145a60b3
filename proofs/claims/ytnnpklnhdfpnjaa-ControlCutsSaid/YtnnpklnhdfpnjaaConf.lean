/-
  Contracts of conf's functions: Check and May.
-/
import Derived.Test.YtnnpklnhdfpnjaaConfValid
set_option linter.unusedSimpArgs false
set_option linter.unusedVariables false
namespace Go.Proofs.Ytnnpklnhdfpnjaa.Conf
set_option linter.unusedVariables false
set_option maxRecDepth 20000
open Go.ChangeShapes Go.WideShapes Go.ChangeAt Go.RowKit
open Go.Proofs.Ytnnpklnhdfpnjaa.Base Go.Proofs.Ytnnpklnhdfpnjaa.ConfPlain

theorem bad_pre (r r' : List Bool) : ∀ (p : List Bool) (k : Nat), bad k (p ++ false :: r) = bad k (p ++ false :: r')
  | [], k => rfl
  | b :: p, k => by
    rw [List.cons_append, List.cons_append, bad, bad, bad_pre r r' p (k + 1)]
/-- Where twice mss wraps around, mss comes first. -/
theorem pos_wrap {c : C} (hc : Rng c) : pos (flagsW c (IntKind.u64.wrap (2 * c.mss))) = pos (flags c) := by
  have h0 : 0 ≤ c.mss ∧ c.mss ≤ 18446744073709551615 := by unfold Rng at hc; omega
  by_cases h : c.mss ≤ 1500
  · have e : IntKind.u64.wrap (2 * c.mss) = Sat.mul 2 c.mss := by
      unfold Sat.mul
      simp [IntKind.wrap, IntKind.bits, IntKind.signed]
      omega
    rw [e]
    rfl
  · have e : (decide (1 ≤ c.mss) && decide (c.mss ≤ 1500)) = false := by simp [h]
    unfold pos flagsW flags
    rw [e]
    exact bad_pre _ _ [_, _, _, _, _] 0
theorem flagsW_len (c : C) (m : Int) : (flagsW c m).length = 17 := rfl
theorem pos_ge (l : List Bool) : 0 ≤ pos l ∧ pos l ≤ l.length := by
  have : ∀ (l : List Bool) (k : Nat), 0 ≤ bad k l ∧ bad k l ≤ k + l.length := by
    intro l
    induction l with
    | nil => intro k; simp [bad]
    | cons b r ih =>
      intro k
      have := ih (k + 1)
      unfold bad
      rw [List.length_cons]
      cases b <;> simp <;> omega
  have := this l 0
  unfold pos
  omega
theorem check_any (c : C) (w : World) (hc : Rng c) : Calls Try.prog 34 #[.agg #[.int .i64 c.bits, .int .u64 c.one, .int .i64 c.ring, .int .u64 c.limit, .int .i64 c.room, .int .u64 c.mss, .int .u64 c.initial, .int .u64 c.least, .int .u64 c.most, .int .i64 c.algo, .int .u64 c.first, .int .u64 c.grain, .int .u64 c.cap, .int .u64 c.burst, .int .u64 c.slowest, .int .i64 c.chal, .int .u64 c.every]] w fun e w' => e = .returned (.int .i64 (pos (flags c))) ∧ Below w.heap.size w w' := by
  have hB := Blk.new w #[.int .i64 c.bits, .int .u64 c.one, .int .i64 c.ring, .int .u64 c.limit, .int .i64 c.room, .int .u64 c.mss, .int .u64 c.initial, .int .u64 c.least, .int .u64 c.most, .int .i64 c.algo, .int .u64 c.first, .int .u64 c.grain, .int .u64 c.cap, .int .u64 c.burst, .int .u64 c.slowest, .int .i64 c.chal, .int .u64 c.every] 24
  have hL : Below w.heap.size w (w.alloc (.cells #[.int .i64 c.bits, .int .u64 c.one, .int .i64 c.ring, .int .u64 c.limit, .int .i64 c.room, .int .u64 c.mss, .int .u64 c.initial, .int .u64 c.least, .int .u64 c.most, .int .i64 c.algo, .int .u64 c.first, .int .u64 c.grain, .int .u64 c.cap, .int .u64 c.burst, .int .u64 c.slowest, .int .i64 c.chal, .int .u64 c.every] 24)) := (Below.refl _ _).alloc (Nat.le_refl _) _
  have CV := fun W => valid_any c W hc
  have CI := fun a cap W h => index_false a 17 cap (flagsW c (IntKind.u64.wrap (2 * c.mss))) W rfl (by decide) h
  rw [pos_wrap hc] at CI
  have hp := pos_ge (flags c)
  rw [flags_len] at hp
  generalize flagsW c (IntKind.u64.wrap (2 * c.mss)) = l at CV CI
  generalize pos (flags c) = n at *
  have hn : n - 1 + 1 = n := by omega
  go_enter Try.func34, Try.ntmps34
  go_upto_region 1 with fail
  generalize w.alloc (.cells #[.int .i64 c.bits, .int .u64 c.one, .int .i64 c.ring, .int .u64 c.limit, .int .i64 c.room, .int .u64 c.mss, .int .u64 c.initial, .int .u64 c.least, .int .u64 c.most, .int .i64 c.algo, .int .u64 c.first, .int .u64 c.grain, .int .u64 c.cap, .int .u64 c.burst, .int .u64 c.slowest, .int .i64 c.chal, .int .u64 c.every] 24) = W at hB hL ⊢
  go_wp2_with (first
    | (refine wpl_load_row (by rfl) 24 (.tmp 1) rfl w.heap.size rfl 24 _ (0, 0) _ hB Try.underlying24 rfl (by kernel_rfl) ?_)
    | (go_at_call 56; refine (CV _).mono ?_; rintro e w1 ⟨p, cap, rfl, hz, L1⟩; have M1 := Base.next0 hL hL.size L1)
    | (go_at_call 55; refine (CI _ _ _ hz).mono ?_; rintro e w2 ⟨rfl, rfl⟩))
  all_goals go_ret
  all_goals exact ⟨rfl, M1⟩
theorem may_any (c : C) (w : World) (hc : Rng c) : Calls Try.prog 20 #[.agg #[.int .i64 c.bits, .int .u64 c.one, .int .i64 c.ring, .int .u64 c.limit, .int .i64 c.room, .int .u64 c.mss, .int .u64 c.initial, .int .u64 c.least, .int .u64 c.most, .int .i64 c.algo, .int .u64 c.first, .int .u64 c.grain, .int .u64 c.cap, .int .u64 c.burst, .int .u64 c.slowest, .int .i64 c.chal, .int .u64 c.every]] w fun e w' => e = .returned (.bool (pos (flags c) == 0)) ∧ Below w.heap.size w w' := by
  have hB := Blk.new w #[.int .i64 c.bits, .int .u64 c.one, .int .i64 c.ring, .int .u64 c.limit, .int .i64 c.room, .int .u64 c.mss, .int .u64 c.initial, .int .u64 c.least, .int .u64 c.most, .int .i64 c.algo, .int .u64 c.first, .int .u64 c.grain, .int .u64 c.cap, .int .u64 c.burst, .int .u64 c.slowest, .int .i64 c.chal, .int .u64 c.every] 24
  have hL : Below w.heap.size w (w.alloc (.cells #[.int .i64 c.bits, .int .u64 c.one, .int .i64 c.ring, .int .u64 c.limit, .int .i64 c.room, .int .u64 c.mss, .int .u64 c.initial, .int .u64 c.least, .int .u64 c.most, .int .i64 c.algo, .int .u64 c.first, .int .u64 c.grain, .int .u64 c.cap, .int .u64 c.burst, .int .u64 c.slowest, .int .i64 c.chal, .int .u64 c.every] 24)) := (Below.refl _ _).alloc (Nat.le_refl _) _
  have CC := fun W => check_any c W hc
  generalize pos (flags c) = n at CC
  go_enter Try.func20, Try.ntmps20
  go_upto_region 1 with fail
  generalize w.alloc (.cells #[.int .i64 c.bits, .int .u64 c.one, .int .i64 c.ring, .int .u64 c.limit, .int .i64 c.room, .int .u64 c.mss, .int .u64 c.initial, .int .u64 c.least, .int .u64 c.most, .int .i64 c.algo, .int .u64 c.first, .int .u64 c.grain, .int .u64 c.cap, .int .u64 c.burst, .int .u64 c.slowest, .int .i64 c.chal, .int .u64 c.every] 24) = W at hB hL ⊢
  go_wp2_with (first
    | (refine wpl_load_row (by rfl) 24 (.tmp 1) rfl w.heap.size rfl 24 _ (0, 0) _ hB Try.underlying24 rfl (by kernel_rfl) ?_)
    | (go_at_call 34; refine (CC _).mono ?_; rintro e w1 ⟨rfl, L1⟩; have M1 := Base.next0 hL hL.size L1))
  all_goals go_ret
  all_goals exact ⟨rfl, M1⟩
end Go.Proofs.Ytnnpklnhdfpnjaa.Conf
