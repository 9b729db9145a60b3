/-
  Configurations: plain facts. Nothing here names a program.
-/
import Derived.Test.YtnnpklnhdfpnjaaSatPlain
set_option linter.unusedSimpArgs false
set_option linter.unusedVariables false
namespace Go.Proofs.Ytnnpklnhdfpnjaa.ConfPlain
set_option linter.unusedVariables false

/-- A configuration's seventeen numbers. -/
structure C where
  bits : Int
  one : Int
  ring : Int
  limit : Int
  room : Int
  mss : Int
  initial : Int
  least : Int
  most : Int
  algo : Int
  first : Int
  grain : Int
  cap : Int
  burst : Int
  slowest : Int
  chal : Int
  every : Int
/-- The place of the first that is false, counted from k + 1; 0 if there is none. -/
def bad : Nat → List Bool → Int
  | _, [] => 0
  | k, b :: r => if b then bad (k + 1) r else k + 1
def pos (l : List Bool) : Int := bad 0 l
theorem bad_step {l : List Bool} {k : Nat} (h : k < l.length) : bad k (l.drop k) = if l.getD k false then bad (k + 1) (l.drop (k + 1)) else (k : Int) + 1 := by
  rw [List.drop_eq_getElem_cons h, bad]
  simp [List.getD, h]
theorem bad_end {l : List Bool} {k : Nat} (h : l.length ≤ k) : bad k (l.drop k) = 0 := by
  rw [List.drop_eq_nil_of_le h]
  rfl
end Go.Proofs.Ytnnpklnhdfpnjaa.ConfPlain
