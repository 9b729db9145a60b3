/-
  The examples of chapter 11 hold (alive), out of the contracts of conf's functions.
-/
import Derived.Test.YtagafpkbmlejcaaConf
import Derived.Test.YtagafpkbmlejcaaConfPure
namespace Go.Proofs.Ytagafpkbmlejcaa.Conf
set_option linter.unusedVariables false
set_option maxRecDepth 20000
open Go.ChangeShapes Go.WideShapes Go.ChangeAt Go.RowKit
open Go.Proofs.Ytagafpkbmlejcaa.Base Go.Proofs.Ytagafpkbmlejcaa.ConfPlain

theorem ex_zero : pos (flags (⟨0, 0, 0, 0, 0, 0, 0, 0, 0, 0, 0, 0, 0, 0, 0, 0, 0⟩ : C)) = 1 := by decide +kernel
theorem ex_one : pos (flags (⟨1, 1, 0, 0, 0, 0, 0, 0, 0, 0, 0, 0, 0, 0, 0, 0, 0⟩ : C)) = 2 := by decide +kernel
theorem rng_zero : Rng (⟨0, 0, 0, 0, 0, 0, 0, 0, 0, 0, 0, 0, 0, 0, 0, 0, 0⟩ : C) := by unfold Rng; decide
theorem rng_one : Rng (⟨1, 1, 0, 0, 0, 0, 0, 0, 0, 0, 0, 0, 0, 0, 0, 0, 0⟩ : C) := by unfold Rng; decide
theorem alive_conf (w : World) :
    Calls Try.prog 7 #[] w fun e w' => e = .returned (.bool true) ∧ Below w.heap.size w w' := by
  have C1 := fun W => check_any (⟨0, 0, 0, 0, 0, 0, 0, 0, 0, 0, 0, 0, 0, 0, 0, 0, 0⟩ : C) W rng_zero
  have C2 := fun W => may_any (⟨0, 0, 0, 0, 0, 0, 0, 0, 0, 0, 0, 0, 0, 0, 0, 0, 0⟩ : C) W rng_zero
  have C3 := fun W => conf_any none 0 0 [] W rfl (Nat.zero_le _) (fun _ h => by cases h) (Row.nil _ _)
  have C4 := fun W => check_any (⟨1, 1, 0, 0, 0, 0, 0, 0, 0, 0, 0, 0, 0, 0, 0, 0, 0⟩ : C) W rng_one
  rw [ex_zero] at C1 C2
  rw [ex_one] at C4
  go_enter Try.func7, Try.ntmps7
  go_wp2_with (first
    | (go_at_call 9; (refine (C1 _).mono ?_); rintro e w1 ⟨rfl, L1⟩; have M1 := L1; clear C1 C4)
    | (go_at_call 10; (refine (C2 _).mono ?_); rintro e w2 ⟨rfl, L2⟩; have M2 := Base.next M1 L2; clear C2)
    | (go_at_call 11; (refine (C3 _).mono ?_); rintro e w3 ⟨c, rfl, hc, L3⟩; have M3 := Base.next M2 L3; have C5 := fun W => may_any c W (made_fit hc); rw [pos_fit hc] at C5; clear C3)
    | (go_at_call 10; (refine (C5 _).mono ?_); rintro e w4 ⟨rfl, L4⟩; have M4 := Base.next M3 L4; have C4 := fun W => check_any (⟨1, 1, 0, 0, 0, 0, 0, 0, 0, 0, 0, 0, 0, 0, 0, 0, 0⟩ : C) W rng_one; rw [ex_one] at C4; clear C5)
    | (go_at_call 9; (refine (C4 _).mono ?_); rintro e w5 ⟨rfl, L5⟩; have M5 := Base.next M4 L5; clear C4))
  all_goals go_ret
  all_goals exact ⟨rfl, M5⟩
end Go.Proofs.Ytagafpkbmlejcaa.Conf
