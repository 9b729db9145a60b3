/-
  Contracts of the reference's Look.
-/
import Derived.Test.YtlnncfjfphkkdaaLedRef
import Derived.Test.YtlnncfjfphkkdaaAckMay
import Derived.Test.YtlnncfjfphkkdaaTrigPlain
set_option linter.unusedSimpArgs false
set_option linter.unusedVariables false
namespace Go.Proofs.Ytlnncfjfphkkdaa.Led
set_option linter.unusedVariables false
set_option maxRecDepth 20000
open Go.ChangeShapes Go.WideShapes Go.ChangeAt Go.RowKit
open Go.Proofs.Ytlnncfjfphkkdaa.Base Go.Proofs.Ytlnncfjfphkkdaa.LedPlain Go.Proofs.Ytlnncfjfphkkdaa.SpanPlain Go.Proofs.Ytlnncfjfphkkdaa.SpanRef
open Go.Proofs.Ytlnncfjfphkkdaa.AckPlain (K)

theorem ref_below (a : Option Addr) (n cap : Nat) (l : List Sp) (low : Int) (w : World) (hn : l.length = n) (hm : n ≤ 140737488355328) (hz : Spans w a l) :
    Calls Try.prog 41 #[.slice a n cap, .int .u64 low] w fun e w' => e = .returned (.bool (belowB l low)) ∧ w = w' := by
  subst hn
  cases l with
  | nil =>
    go_enter Try.func41, Try.ntmps41
    go_wp2
    all_goals go_ret
    all_goals exact ⟨rfl, rfl⟩
  | cons s l =>
    obtain ⟨b, off, rfl, hb, c0, _⟩ := hz.at_ (i := 0) (by simp)
    have hv : belowB (s :: l) low = decide (s.1 < low) := by unfold belowB; simp
    rw [hv]
    clear hv
    simp only [List.getD_cons_zero, Nat.zero_mul, Nat.add_zero] at c0
    have hl : (0 : Int) < ((s :: l).length : Int) := by simp
    go_enter Try.func41, Try.ntmps41
    go_wp2
    all_goals go_ret
    all_goals exact ⟨rfl, rfl⟩
end Go.Proofs.Ytlnncfjfphkkdaa.Led
