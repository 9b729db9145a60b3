/-
  Contracts of the reference's sums and of its comparison of lists of words.
-/
import Derived.Test.YtoncominjgkjoaaRows
import Derived.Test.YtoncominjgkjoaaFr
import Derived.Test.YtoncominjgkjoaaBools
import Derived.Test.YtoncominjgkjoaaFoldPlain
import Derived.WalkKit
import Derived.ProofKit
import Derived.OpenShut
import Derived.WalkSpells
import Derived.Deep.RegionWith
import Derived.LoopTactic
import Derived.Lib.Hide
import Derived.OwnWalk
import Derived.Deep.OwnRows
import Derived.BigQuiet
set_option linter.unusedSimpArgs false
set_option linter.unusedVariables false
namespace Go.Proofs.Ytoncominjgkjoaa.Fold
set_option linter.unusedVariables false
set_option maxRecDepth 20000
open Go.ChangeShapes Go.WideShapes Go.ChangeAt Go.RowKit
open Go.Proofs.Ytoncominjgkjoaa.Base Go.Proofs.Ytoncominjgkjoaa.FoldPlain

theorem info64 : (Try.prog.info? 23).map (fun i => (i.zero, i.size, i.bytes)) = some (some (.int .u64 0), 1, 8) := by kernel_rfl
theorem infob : (Try.prog.info? 4).map (fun i => (i.zero, i.size, i.bytes)) = some (some (.bool false), 1, 1) := by kernel_rfl
/-- What the making of sums comes to. -/
def SumPost (w : World) (k : Nat) (vs : List Value) : Ending → World → Prop := fun e w' => ∃ a c, e = .returned (.slice a k c) ∧ k ≤ c ∧ c ≤ maxLen ∧ (a = none → k = 0 ∧ c = 0) ∧ RowIn (fun i => w.heap.size ≤ i) w' a vs ∧ Below w.heap.size w w'
theorem ref_same (a b : Option Addr) (n c d : Nat) (l : List Int) (w : World) (hn : l.length = n) (hm : n ≤ 140737488355328) (hz : Ints .u64 w a l) (hy : Ints .u64 w b l) :
    Calls Try.prog 12 #[.slice a n c, .slice b n d] w fun e w' => e = .returned (.bool true) ∧ Below w.heap.size w w' := by
  subst hn
  go_enter Try.func12, Try.ntmps12
  go_wp2
  go_loopw [5] (fun i wr => ∃ k : Nat, k ≤ l.length ∧ i = .int .i64 k ∧ Below w.heap.size w wr) (fun i _ => l.length - (intOf i).toNat)
  case atStart => exact ⟨0, Nat.zero_le _, rfl, Below.refl _ _⟩
  case round =>
    obtain ⟨k, hk, rfl, hL⟩ := hrel
    by_cases hlt : k < l.length
    · obtain ⟨b1, off1, rfl, hb1, c0⟩ := (hz.below hL).at_ hlt
      obtain ⟨b2, off2, rfl, hb2, c1⟩ := (hy.below hL).at_ hlt
      have hkI : (k : Int) < (l.length : Int) := by omega
      generalize l.getD k 0 = y at *
      go_wp2
      go_quiet (fail)
      go_wp2
      go_roundw
      case rel => exact ⟨k + 1, by omega, by go_num, Base.drawn hL _⟩
      case measure => simp [intOf]; omega
    · obtain rfl : k = l.length := by omega
      go_wp2
      go_ret
      exact ⟨rfl, hL⟩
end Go.Proofs.Ytoncominjgkjoaa.Fold
