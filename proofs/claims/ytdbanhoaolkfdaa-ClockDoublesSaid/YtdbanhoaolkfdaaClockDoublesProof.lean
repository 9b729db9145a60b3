/-
  One more doubling of any time, by a count of 8 bits, is the time twice, or the most. No conditions.
-/
import Derived.Test.YtdbanhoaolkfdaaRows
import Derived.Test.YtdbanhoaolkfdaaRow
import Derived.WalkKit
import Derived.ProofKit
import Derived.OpenShut
import Derived.ShutString
import Derived.ChangeOld
import Derived.Below
import Derived.Test.YtdbanhoaolkfdaaClock
namespace Go.Proofs.Ytdbanhoaolkfdaa.clockDoubles
open Go.ChangeShapes Go.WideShapes Go.ChangeAt Go.RowKit
open Go.ChangeMaps (open_string shut_string)
open Go.Proofs.Ytdbanhoaolkfdaa.Base
set_option linter.unusedVariables false

theorem own : ownKnob Try.prog.godebug = none := by kernel_rfl
theorem laidOut : laidOutB Try.prog = true := by kernel_rfl

open Go.Proofs.Ytdbanhoaolkfdaa.Sat Go.Proofs.Ytdbanhoaolkfdaa.Clock
theorem shl_more {a n : Int} (a0 : 0 ≤ a) (n0 : 0 ≤ n) : shl a (n + 1) = add (shl a n) (shl a n) := by
  have e : (n + 1).toNat = n.toNat + 1 := by omega
  have := pw_nonneg a0 n.toNat
  unfold shl add
  rw [e, pw_succ]
  split <;> split <;> (try split) <;> omega
theorem back_more {a n m : Int} (a0 : 0 ≤ a) (n0 : 0 ≤ n) (m0 : 0 ≤ m) (m1 : m ≤ 18446744073709551615) : min (shl a (n + 1)) m = min (add (min (shl a n) m) (min (shl a n) m)) m ∧ min (shl a n) m ≤ min (shl a (n + 1)) m := by
  rw [shl_more a0 n0]
  have := shl_bd (n := n) a0
  generalize shl a n = x at *
  unfold add
  split <;> split <;> omega
theorem walk (a0 : Int) (a1 : Int) (a2 : Int) (w : World) (w0 : (Lit.int .u64 a0).wf = true) (w1 : (Lit.int .u8 a1).wf = true) (w2 : (Lit.int .u64 a2).wf = true) :
    Calls Try.prog 8 #[.int .u64 a0, .int .u8 a1, .int .u64 a2] w fun e w' => e = .returned (.bool true) ∧ Below w.heap.size w w' := by
  obtain ⟨p0, p1⟩ := Base.u64_of w0
  obtain ⟨q0, q1⟩ := Base.u8_of w1
  obtain ⟨r0, r1⟩ := Base.u64_of w2
  clear w0 w1 w2
  obtain ⟨e1, l1⟩ := back_more (m := a2) p0 q0 r0 r1
  have s := shl_bd (n := a1) p0
  have u := shl_bd (n := a1 + 1) p0
  obtain ⟨x, hx⟩ : ∃ x, min (shl a0 a1) a2 = x := ⟨_, rfl⟩
  obtain ⟨y, hy⟩ : ∃ y, min (shl a0 (a1 + 1)) a2 = y := ⟨_, rfl⟩
  have x0 : 0 ≤ x := by omega
  have x1 : x ≤ 18446744073709551615 := by omega
  have y1 : y ≤ a2 := by omega
  rw [hx, hy] at e1 l1
  have HX := Lib.hid hx
  have HY := Lib.hid hy
  have E := Lib.hid e1
  clear hx hy e1 s u
  go_enter Try.func8, Try.ntmps8
  go_wp2_with (first
    | (go_at_call 9; refine (alive_clock _).mono ?_; rintro e wa ⟨rfl, ha⟩)
    | (go_at_call 10; refine (after_any x x x0 x1 x0 x1 _).mono ?_; rintro e w' ⟨rfl, rfl⟩)
    | ((with_reducible refine (backoff_any a0 a1 a2 p0 p1 (by omega) (by omega) _).mono ?_); rw [HX.out]; rintro e w' ⟨rfl, rfl⟩)
    | ((with_reducible refine (backoff_any a0 (a1 + 1) a2 p0 p1 (by omega) (by omega) _).mono ?_); rw [HY.out]; rintro e w' ⟨rfl, rfl⟩))
  all_goals go_ret
  all_goals exact ⟨Base.ret_bool (by rw [← E.out]; simp; try exact y1), ha⟩

set_option maxRecDepth 100000 in
theorem lifted (os : Os) (started : os.Started) (H : Type) (enc : TypeId × Value → H) :
    ReturnsInHanded {} Try.checked os 8 .any (Rows.clockDoublesSpec.pre6 enc Try.prog Try.f8 Rows.clockDoublesRow.domain false) (Rows.clockDoublesSpec.post enc Try.prog Try.f8 false true false false) := by
  refine returnsInHanded_of_change (C := Try.checked) own started (by kernel_rfl) Try.func8
    (ChangeSpec.witness6 (enc := enc) (C := Try.checked) false ⟨#[], #[.int .u64 0, .int .u8 0, .int .u64 0], []⟩ 8 (by kernel_rfl) (by kernel_rfl) (by kernel_rfl) (by kernel_rfl)) ?_
  intro W base args ds gs before hval0 hW hcnd _
  have hval : ∀ (j : Nat) t v, Try.f8.params[j]? = some t → args[j]? = some v → Value.okWide Try.prog W .any base t v := hval0
  have hW' := hW
  obtain ⟨p, q, hA0, hV, rfl, hfz, hnd⟩ := hW
  have hA : DataW.TrodAll enc Try.prog W 0 (fun _ => true) true Try.f8.params.toList args.toList ds p := hA0
  rw [Try.params8] at hA hval
  obtain ⟨v0, vs0, d0, ds0, p0, q0, hargs, rfl, rfl, h0, r0⟩ := trodAll_cons hA
  obtain ⟨v1, vs1, d1, ds1, p1, q1, rfl, rfl, rfl, h1, r1⟩ := trodAll_cons r0
  obtain ⟨v2, vs2, d2, ds2, p2, q2, rfl, rfl, rfl, h2, r2⟩ := trodAll_cons r1
  obtain ⟨rfl, rfl, rfl⟩ := trodAll_nil r2
  obtain rfl : args = #[v0, v1, v2] := by cases args; simp_all
  obtain ⟨rfl, rfl⟩ := trodVars_none hV
  obtain ⟨a0, rfl, rfl, rfl, w0⟩ := open_int Try.underlying22 (hval 0 22 v0 rfl rfl) h0
  obtain ⟨a1, rfl, rfl, rfl, w1⟩ := open_int Try.underlying5 (hval 1 5 v1 rfl rfl) h1
  obtain ⟨a2, rfl, rfl, rfl, w2⟩ := open_int Try.underlying22 (hval 2 22 v2 rfl rfl) h2
  clear hA0 hval0
  refine (walk a0 a1 a2 W w0 w1 w2).mono fun e W' ⟨he, bel⟩ => ?_
  subst he
  exact ⟨_, rfl, _, _, _, [], _, [], hW', trodAll_mk1 (shut_bool Try.underlying4 _), (trodAll_cons_mk (shut_int Try.underlying22 w0) (trodAll_cons_mk (shut_int Try.underlying5 w1) (trodAll_cons_mk (shut_int Try.underlying22 w2) trodAll_mk0))), rfl, bel.frame _, fun h => by cases h⟩

theorem over : Rows.clockDoublesRow.holds Try.pinned (OpenSpec.ofChange Rows.clockDoublesSpec) :=
  OpenClaim.holds_of_wide 8 Try.f8 rfl rfl rfl rfl rfl rfl rfl ⟨rfl, rfl, rfl, rfl, rfl⟩ rfl rfl rfl rfl rfl (by kernel_rfl) Try.func8 (by kernel_rfl)
    (of_decide_eq_true (by kernel_rfl)) (by unfold Func.isWrapper; first | (rw [if_pos (by decide +kernel)]; kernel_rfl) | (rw [if_neg (by decide +kernel)]; exact ⟨rfl, rfl⟩))
    (fun os started H enc _ => lifted os started H enc)

/-- The given statement. -/
theorem proved : Rows.ClockDoublesSaid :=
  over
#print axioms proved
end Go.Proofs.Ytdbanhoaolkfdaa.clockDoubles
