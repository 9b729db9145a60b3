/-
  The examples of the document hold (alive).
-/
import Derived.Test.YtendfhmgacfobaaDoorRows
import Derived.Test.YtendfhmgacfobaaDoorFr
import Derived.Test.YtendfhmgacfobaaDoorOctPlain
import Derived.Test.YtendfhmgacfobaaDoorTab
import Derived.Test.YtendfhmgacfobaaDoorOct
import Derived.Test.YtendfhmgacfobaaDoorOctNum
import Derived.Test.YtendfhmgacfobaaDoorOctRef
import Derived.WalkKit
import Derived.ProofKit
import Derived.OpenShut
import Derived.WalkSpells
import Derived.Deep.RegionWith
import Derived.LoopTactic
import Derived.Lib.Hide
import Derived.OwnWalk
import Derived.Deep.OwnRows
namespace Go.Proofs.YtendfhmgacfobaaDoor.Oct
set_option linter.unusedVariables false
open Go.ChangeShapes Go.WideShapes Go.ChangeAt Go.RowKit
open Go.Proofs.YtendfhmgacfobaaDoor.Base Go.Proofs.YtendfhmgacfobaaDoor.OctPlain Go.Proofs.YtendfhmgacfobaaDoor.Tab

theorem ref_put_new (n : Int) (w : World) (n0 : 0 ≤ n) (n1 : n ≤ 18446744073709551615) :
    Calls Tryd.prog 10 #[.slice none 0 0, .int .u64 n] w fun e w' => ∃ a cap, e = .returned (.slice a (put n).length cap) ∧ RowIn (fun k => w.heap.size ≤ k) w' a ((put n).map (.int .u8)) ∧ Below w.heap.size w w' := by
  refine (ref_put (Own.nil w.heap.size w) (Nat.le_refl _) (by decide) n n0 n1).mono ?_
  rintro e w' ⟨v, rfl, hO, hF⟩
  obtain ⟨a, cap, rfl, _, _, _, hR⟩ := hO.read
  exact ⟨a, cap, rfl, hR, hF.toBelow (Nat.le_refl _) fun _ h => h⟩
theorem ref_eight_new (n : Int) (w : World) (n0 : 0 ≤ n) (n1 : n ≤ 18446744073709551615) :
    Calls Tryd.prog 14 #[.slice none 0 0, .int .u64 n] w fun e w' => ∃ a cap, e = .returned (.slice a 8 cap) ∧ RowIn (fun k => w.heap.size ≤ k) w' a ((be 8 n).map (.int .u8)) ∧ Below w.heap.size w w' := by
  refine (ref_eight (Own.nil w.heap.size w) (Nat.le_refl _) (by decide) n n0 n1).mono ?_
  rintro e w' ⟨v, rfl, hO, hF⟩
  obtain ⟨a, cap, rfl, _, _, _, hR⟩ := hO.read
  exact ⟨a, cap, rfl, hR, hF.toBelow (Nat.le_refl _) fun _ h => h⟩
theorem ex_put : put 64 = [64, 64] := by decide +kernel
theorem ex_num : num [64, 63] = (0, 0, 5) := by decide +kernel
theorem ex_size1 : size 63 = 1 := by decide +kernel
theorem ex_size0 : size 4611686018427387904 = 0 := by decide +kernel
theorem alive_octet (w : World) (hT : Tab w) :
    Calls Tryd.prog 8 #[] w fun e w' => e = .returned (.bool true) ∧ Below w.heap.size w w' := by
  have c1 := put_any 64 w (by decide) (by decide) hT
  rw [ex_put] at c1
  have c2 := size_any 63 (by decide)
  rw [ex_size1] at c2
  have c3 := size_any 4611686018427387904 (by decide)
  rw [ex_size0] at c3
  have hb : Bytes [64, 63] := by intro x hx; simp at hx; omega
  go_enter Tryd.func8, Tryd.ntmps8
  go_wp2_with (first
    | (go_at_call 9; refine c1.mono ?_; rintro e w1 ⟨a1, cap1, rfl, h1, h2, h3, R1, L1⟩)
    | (go_at_call 15; refine (new_any (some ⟨w1.heap.size, 0, none⟩) 2 2 [64, 63] (w1.alloc (.cells #[.int .u8 64, .int .u8 63] 5)) rfl (by decide) (by decide) (fun e => by cases e) (.of (Row.lit w1 _ [.int .u8 64, .int .u8 63]))).mono ?_; rintro e w2 ⟨b2, rfl, H2, L2⟩; have M2 := Base.below_step (Below.refl _ _) L2)
    | (go_at_call 16; refine (num_any H2 hb (by decide)).mono ?_; rw [ex_num]; rintro e w3 ⟨rfl, H3, F3⟩; have M3 : Below w1.heap.size w1 w3 := F3.below M2 M2.size (by rintro k rfl; have := H2.1.1; simp at this; omega); have hs3 : (convert 24 9 (.slice a1 2 cap1)).run Tryd.prog w3 = .ok (.string { data := #[64, 64] }) w3 := str_of w3 a1 2 cap1 [64, 64] rfl (R1.row.below M3))
    | (go_at_call 21; refine (left_any H3).mono ?_; rintro e w' ⟨rfl, rfl⟩)
    | ((with_reducible refine (c2 _).mono ?_); rintro e w' ⟨rfl, rfl⟩)
    | ((with_reducible refine (c3 _).mono ?_); rintro e w' ⟨rfl, rfl⟩))
  all_goals go_ret
  all_goals exact ⟨rfl, L1.trans (M3.mono L1.size)⟩
end Go.Proofs.YtendfhmgacfobaaDoor.Oct
