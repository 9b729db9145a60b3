/-
  The contracts of package clock and of the reference's functions beside it. Each leaves the world as it was.
-/
import Derived.Test.YtbamdilihpnhjaaRow
import Derived.Test.YtbamdilihpnhjaaSatShl
import Derived.LoopTactic
set_option linter.unusedSimpArgs false
set_option linter.unusedVariables false
namespace Go.Proofs.Ytbamdilihpnhjaa.Clock
set_option linter.unusedVariables false
set_option maxRecDepth 20000
open Go.ChangeShapes Go.WideShapes Go.ChangeAt Go.RowKit
open Go.Proofs.Ytbamdilihpnhjaa.Base Go.Proofs.Ytbamdilihpnhjaa.Sat

def due (now at' : Int) : Bool := decide (at' ≠ 18446744073709551615 ∧ at' ≤ now)
def least (l : List Int) : Int := l.foldl min 18446744073709551615
theorem least_snoc (l : List Int) (x : Int) : least (l ++ [x]) = min (least l) x := by unfold least; rw [List.foldl_append]; rfl
theorem least_take (l : List Int) (k : Nat) (h : k < l.length) : least (l.take (k + 1)) = min (least (l.take k)) (l.getD k 0) := by
  rw [List.take_succ_eq_append_getElem h, least_snoc]
  simp [List.getD, List.getElem?_eq_getElem h]
theorem foldl_min (l : List Int) (x : Int) : l.foldl min x = min x (l.foldl min 18446744073709551615) ∨ 18446744073709551615 < x := by
  induction l generalizing x with
  | nil => simp; omega
  | cons a l ih =>
    simp only [List.foldl_cons]
    have h1 := ih (min x a)
    have h2 := ih (min 18446744073709551615 a)
    omega
theorem least_append (l m : List Int) : least (l ++ m) = min (least l) (least m) := by
  have h : ∀ m : List Int, least (l ++ m) = min (least l) (least m) ∧ least l ≤ 18446744073709551615 := by
    intro m
    have hl : least l ≤ 18446744073709551615 := by
      have := foldl_min l 18446744073709551615
      unfold least; omega
    refine ⟨?_, hl⟩
    have := foldl_min m (least l)
    unfold least at this ⊢
    rw [List.foldl_append]
    unfold least at hl
    omega
  exact (h m).1
theorem least_bd (l : List Int) (h : ∀ n ∈ l, (Lit.int .u64 n).wf = true) : 0 ≤ least l ∧ least l ≤ 18446744073709551615 := by
  have h' : ∀ (l : List Int) (x : Int), (∀ n ∈ l, (Lit.int .u64 n).wf = true) → 0 ≤ x → x ≤ 18446744073709551615 → 0 ≤ l.foldl min x ∧ l.foldl min x ≤ 18446744073709551615 := by
    intro l
    induction l with
    | nil => intro x _ h0 h1; exact ⟨h0, h1⟩
    | cons a l ih =>
      intro x hw h0 h1
      have ha := Base.u64_of (hw a List.mem_cons_self)
      exact ih (min x a) (fun n hn => hw n (List.mem_cons_of_mem _ hn)) (by omega) (by omega)
  exact h' l _ h (by decide) (by decide)

theorem after_any (a b : Int) (a0 : 0 ≤ a) (a1 : a ≤ 18446744073709551615) (b0 : 0 ≤ b) (b1 : b ≤ 18446744073709551615) (w : World) :
    Calls Try.prog 19 #[.int .u64 a, .int .u64 b] w fun e w' => e = .returned (.int .u64 (add a b)) ∧ w = w' := by
  go_enter Try.func19, Try.ntmps19
  go_wp2_with (go_at_call 25; refine (add_any a b a0 a1 b0 b1 _).mono ?_; rintro e w' ⟨rfl, rfl⟩)
  go_ret
  exact ⟨rfl, rfl⟩
theorem since_any (a b : Int) (a0 : 0 ≤ a) (a1 : a ≤ 18446744073709551615) (b0 : 0 ≤ b) (b1 : b ≤ 18446744073709551615) (w : World) :
    Calls Try.prog 27 #[.int .u64 a, .int .u64 b] w fun e w' => e = .returned (.int .u64 (sub a b)) ∧ w = w' := by
  go_enter Try.func27, Try.ntmps27
  go_wp2_with (go_at_call 21; refine (sub_any a b a0 a1 b0 b1 _).mono ?_; rintro e w' ⟨rfl, rfl⟩)
  go_ret
  exact ⟨rfl, rfl⟩
theorem ex_least : least [5, 3, 9] = 3 := by decide +kernel
theorem ex_least0 : least [] = 18446744073709551615 := by decide +kernel
theorem ex_due1 : due 5 5 = true := by decide +kernel
theorem ex_due2 : due 18446744073709551615 18446744073709551615 = false := by decide +kernel
theorem ex_back : min (shl 3 2) 10 = 10 := by decide +kernel
theorem ex_after : add 3 4 = 7 := by decide +kernel
theorem ex_since : sub 7 4 = 3 := by decide +kernel
end Go.Proofs.Ytbamdilihpnhjaa.Clock
