/-
  Of any configuration, the place of the first field that may not be, and whether it may be, are as the document defines them. No conditions.
-/
import Derived.Test.YtagafpkbmlejcaaConfRow
import Derived.Test.YtagafpkbmlejcaaRows
import Derived.Test.YtagafpkbmlejcaaRow
import Derived.WalkKit
import Derived.ProofKit
import Derived.OpenShut
import Derived.ShutString
import Derived.ChangeOld
import Derived.Below
import Derived.Test.YtagafpkbmlejcaaConfAlive
namespace Go.Proofs.Ytagafpkbmlejcaa.confChecks
open Go.ChangeShapes Go.WideShapes Go.ChangeAt Go.RowKit
open Go.ChangeMaps (open_string shut_string)
open Go.Proofs.Ytagafpkbmlejcaa.Base Go.Proofs.Ytagafpkbmlejcaa.Conf Go.Proofs.Ytagafpkbmlejcaa.ConfPlain
set_option linter.unusedVariables false

theorem own : ownKnob Try.prog.godebug = none := by kernel_rfl
theorem laidOut : laidOutB Try.prog = true := by kernel_rfl

open Go.Proofs.Ytagafpkbmlejcaa.Conf Go.Proofs.Ytagafpkbmlejcaa.ConfPlain
set_option maxHeartbeats 1000000 in
theorem walk (x0 : C) (w : World) (f0 : Rng x0) :
    Calls Try.prog 3 #[.agg #[.int .i64 x0.bits, .int .u64 x0.one, .int .i64 x0.ring, .int .u64 x0.limit, .int .i64 x0.room, .int .u64 x0.mss, .int .u64 x0.initial, .int .u64 x0.least, .int .u64 x0.most, .int .i64 x0.algo, .int .u64 x0.first, .int .u64 x0.grain, .int .u64 x0.cap, .int .u64 x0.burst, .int .u64 x0.slowest, .int .i64 x0.chal, .int .u64 x0.every]] w fun e w' => e = .returned (.bool true) ∧ Below w.heap.size w w' := by
  have hm : 0 ≤ x0.mss ∧ x0.mss ≤ 18446744073709551615 := by unfold Rng at f0; omega
  have CR := fun W => ref_check x0 hm.1 hm.2 W
  have CC := fun W => check_any x0 W f0
  have CM := fun W => may_any x0 W f0
  generalize pos (flags x0) = n at CR CC CM
  clear f0 hm
  go_enter Try.func3, Try.ntmps3
  go_upto_region 1 with fail
  have hB := Blk.new w #[.int .i64 x0.bits, .int .u64 x0.one, .int .i64 x0.ring, .int .u64 x0.limit, .int .i64 x0.room, .int .u64 x0.mss, .int .u64 x0.initial, .int .u64 x0.least, .int .u64 x0.most, .int .i64 x0.algo, .int .u64 x0.first, .int .u64 x0.grain, .int .u64 x0.cap, .int .u64 x0.burst, .int .u64 x0.slowest, .int .i64 x0.chal, .int .u64 x0.every] 24
  have hL : Below w.heap.size w (w.alloc (.cells #[.int .i64 x0.bits, .int .u64 x0.one, .int .i64 x0.ring, .int .u64 x0.limit, .int .i64 x0.room, .int .u64 x0.mss, .int .u64 x0.initial, .int .u64 x0.least, .int .u64 x0.most, .int .i64 x0.algo, .int .u64 x0.first, .int .u64 x0.grain, .int .u64 x0.cap, .int .u64 x0.burst, .int .u64 x0.slowest, .int .i64 x0.chal, .int .u64 x0.every] 24)) := (Below.refl _ _).alloc (Nat.le_refl _) _
  generalize w.alloc (.cells #[.int .i64 x0.bits, .int .u64 x0.one, .int .i64 x0.ring, .int .u64 x0.limit, .int .i64 x0.room, .int .u64 x0.mss, .int .u64 x0.initial, .int .u64 x0.least, .int .u64 x0.most, .int .i64 x0.algo, .int .u64 x0.first, .int .u64 x0.grain, .int .u64 x0.cap, .int .u64 x0.burst, .int .u64 x0.slowest, .int .i64 x0.chal, .int .u64 x0.every] 24) = W at hB hL ⊢
  go_wp2_with (first
    | (go_at_call 7; refine (alive_conf W).mono ?_; rintro e w1 ⟨rfl, L1⟩; have hL1 := Base.next hL L1; have hB1 := hB.below L1 hB.lt; clear hB hL)
    | (go_at_call 8; refine (CR w1).mono ?_; rintro e w2 ⟨rfl, L2⟩; have hL2 := Base.next hL1 L2; have hB2 := hB1.below L2 hB1.lt; clear hB1 hL1)
    | (go_at_call 9; refine (CC w2).mono ?_; rintro e w3 ⟨rfl, L3⟩; have hL3 := Base.next hL2 L3; have hB3 := hB2.below L3 hB2.lt; clear hB2 hL2)
    | (go_at_call 10; refine (CM w3).mono ?_; rintro e w4 ⟨rfl, L4⟩; have hL4 := Base.next hL3 L4; clear hL3)
    | (refine wpl_load_row (by rfl) 24 (.tmp 1) rfl w.heap.size rfl 24 _ (0, 0) _ hB1 Try.underlying24 rfl (by kernel_rfl) ?_) | (refine wpl_load_row (by rfl) 24 (.tmp 1) rfl w.heap.size rfl 24 _ (0, 0) _ hB2 Try.underlying24 rfl (by kernel_rfl) ?_) | (refine wpl_load_row (by rfl) 24 (.tmp 1) rfl w.heap.size rfl 24 _ (0, 0) _ hB3 Try.underlying24 rfl (by kernel_rfl) ?_))
  all_goals go_ret
  all_goals exact ⟨by simp, hL4⟩

set_option maxRecDepth 100000 in
theorem lifted (os : Os) (started : os.Started) (H : Type) (enc : TypeId × Value → H) :
    ReturnsInHanded {} Try.checked os 3 .any (Rows.confChecksSpec.pre6 enc Try.prog Try.f3 Rows.confChecksRow.domain false) (Rows.confChecksSpec.post enc Try.prog Try.f3 false true false false) := by
  refine returnsInHanded_of_change (C := Try.checked) own started (by kernel_rfl) Try.func3
    (ChangeSpec.witness6 (enc := enc) (C := Try.checked) false ⟨#[], #[.agg #[.int .i64 0, .int .u64 0, .int .i64 0, .int .u64 0, .int .i64 0, .int .u64 0, .int .u64 0, .int .u64 0, .int .u64 0, .int .i64 0, .int .u64 0, .int .u64 0, .int .u64 0, .int .u64 0, .int .u64 0, .int .i64 0, .int .u64 0]], []⟩ 8 (by kernel_rfl) (by kernel_rfl) (by kernel_rfl) (by kernel_rfl)) ?_
  intro W base args ds gs before hval0 hW hcnd _
  have hval : ∀ (j : Nat) t v, Try.f3.params[j]? = some t → args[j]? = some v → Value.okWide Try.prog W .any base t v := hval0
  have hW' := hW
  obtain ⟨p, q, hA0, hV, rfl, hfz, hnd⟩ := hW
  have hA : DataW.TrodAll enc Try.prog W 0 (fun _ => true) true Try.f3.params.toList args.toList ds p := hA0
  rw [Try.params3] at hA hval
  obtain ⟨v0, vs0, d0, ds0, p0, q0, hargs, rfl, rfl, h0, r0⟩ := trodAll_cons hA
  obtain ⟨rfl, rfl, rfl⟩ := trodAll_nil r0
  obtain rfl : args = #[v0] := by cases args; simp_all
  obtain ⟨rfl, rfl⟩ := trodVars_none hV
  have k0 := h0
  have lt0 : ∀ x ∈ p0, x.block < W.heap.size := by obtain ⟨m, hm⟩ := k0; exact DataW.trod_lt m _ _ _ hm
  obtain ⟨x0, rfl, f0⟩ := open_config Try.underlying24 (by kernel_rfl) (by kernel_rfl) Try.underlying3 Try.underlying22 Try.underlying3 Try.underlying22 Try.underlying3 Try.underlying22 Try.underlying22 Try.underlying22 Try.underlying22 Try.underlying3 Try.underlying22 Try.underlying22 Try.underlying22 Try.underlying22 Try.underlying22 Try.underlying3 Try.underlying22 (hval 0 24 v0 rfl rfl) h0
  clear hA0 hval0
  refine (walk x0 W f0).mono fun e W' ⟨he, bel⟩ => ?_
  subst he
  exact ⟨_, rfl, _, _, _, [], _, [], hW', trodAll_mk1 (shut_bool Try.underlying4 _), (trodAll_cons_mk (Below.trod laidOut (by kernel_rfl) (of_decide_eq_true (by kernel_rfl)) k0 bel lt0) trodAll_mk0), rfl, bel.frame _, fun h => by cases h⟩

theorem over : Rows.confChecksRow.holds Try.pinned (OpenSpec.ofChange Rows.confChecksSpec) :=
  OpenClaim.holds_of_wide 3 Try.f3 rfl rfl rfl rfl rfl rfl rfl ⟨rfl, rfl, rfl, rfl, rfl⟩ rfl rfl rfl rfl rfl (by kernel_rfl) Try.func3 (by kernel_rfl)
    (of_decide_eq_true (by kernel_rfl)) (by unfold Func.isWrapper; first | (rw [if_pos (by decide +kernel)]; kernel_rfl) | (rw [if_neg (by decide +kernel)]; exact ⟨rfl, rfl⟩))
    (fun os started H enc _ => lifted os started H enc)

/-- The given statement. -/
theorem proved : Rows.ConfChecksSaid :=
  over
#print axioms proved
end Go.Proofs.Ytagafpkbmlejcaa.confChecks
