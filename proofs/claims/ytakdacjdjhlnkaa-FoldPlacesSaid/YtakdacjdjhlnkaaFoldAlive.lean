/-
  The examples of chapter 10 hold (alive), out of the contracts of fold's functions.
-/
import Derived.Test.YtakdacjdjhlnkaaFold
namespace Go.Proofs.Ytakdacjdjhlnkaa.Fold
set_option linter.unusedVariables false
set_option maxRecDepth 20000
open Go.ChangeShapes Go.WideShapes Go.ChangeAt Go.RowKit
open Go.Proofs.Ytakdacjdjhlnkaa.Base Go.Proofs.Ytakdacjdjhlnkaa.FoldPlain

theorem ex_sums : sums [5, 3] = [0, 5, 6] := by decide +kernel
theorem ex_over : overV [0, 5, 6] 1 2 = 3 := by decide +kernel
theorem ex_w2 : W64 [5, 3] := by simp [W64]
theorem ex_w3 : W64 [0, 5, 6] := by simp [W64]
theorem row_at {w : World} {g : Nat} (T : TypeId) (xs : List Value) (hg : g = w.heap.size) : Row (w.alloc (.cells xs.toArray T)) (some ⟨g, 0, none⟩) xs := by subst hg; exact Row.lit w T xs
theorem alive_fold (w : World) :
    Calls Try.prog 7 #[] w fun e w' => e = .returned (.bool true) ∧ Below w.heap.size w w' := by
  have C1 := xors_any (some ⟨w.heap.size, 0, none⟩) 2 2 [5, 3] (w.alloc (.cells #[.int .u64 5, .int .u64 3] 29)) rfl (Nat.le_refl _) (by decide) ex_w2 (.of (row_at 29 [.int .u64 5, .int .u64 3] rfl))
  rw [ex_sums] at C1
  go_enter Try.func7, Try.ntmps7
  go_wp2_with (first
    | (go_at_call 11; refine C1.mono ?_; rintro e w1 ⟨a1, c1, rfl, h1, h2, h3, R1, L1⟩; have M1 := Base.next ((Below.refl w.heap.size w).alloc (Nat.le_refl _) _) L1; clear C1)
    | (go_at_call 13; refine (over_any (some ⟨w1.heap.size, 0, none⟩) 3 3 [0, 5, 6] 1 2 (w1.alloc (.cells #[.int .u64 0, .int .u64 5, .int .u64 6] 29)) rfl (by decide) ex_w3 (by decide) (by decide) (by decide) (by decide) (.of (row_at 29 [.int .u64 0, .int .u64 5, .int .u64 6] rfl))).mono ?_; rw [ex_over]; rintro e w2 ⟨rfl, L2⟩; have N2 := Base.next ((Below.refl w1.heap.size w1).alloc (Nat.le_refl _) _) L2; have M2 := Base.next M1 N2)
    | (go_at_call 14; refine (odd_any (some ⟨w2.heap.size, 0, none⟩) 2 2 [false, true] 0 1 (w2.alloc (.cells #[.bool false, .bool true] 4)) rfl (by decide) (by decide) (by decide) (by decide) (by decide) (row_at 4 [.bool false, .bool true] rfl)).mono ?_; rintro e w3 ⟨rfl, L3⟩; have N3 := Base.next ((Below.refl w2.heap.size w2).alloc (Nat.le_refl _) _) L3; have M3 := Base.next M2 N3)
    | (go_at_call 10; refine (ref_same a1 (some ⟨w3.heap.size, 0, none⟩) 3 c1 3 [0, 5, 6] (w3.alloc (.cells #[.int .u64 0, .int .u64 5, .int .u64 6] 29)) rfl (by decide) (.of (Row.alloc ((R1.row.below N2).below N3) _)) (.of (row_at 29 [.int .u64 0, .int .u64 5, .int .u64 6] rfl))).mono ?_; rintro e w4 ⟨rfl, L4⟩; have M4 := Base.next M3 (Base.next ((Below.refl w3.heap.size w3).alloc (Nat.le_refl _) _) L4))
    | (go_at_call 8; refine (odds_any none 0 0 [] w4 rfl (Nat.le_refl _) (by decide) (Bools.nil _ _)).mono ?_; rintro e w5 ⟨a5, c5, rfl, k1, k2, k3, R5, L5⟩; have M5 := Base.next M4 L5))
  all_goals go_ret
  all_goals exact ⟨rfl, M5⟩
end Go.Proofs.Ytakdacjdjhlnkaa.Fold
