/-
  For any number below 2642245 the root of its cube is the number, and that of one less the one ahead. No conditions.
-/
import Derived.Test.YtifhklnnfnondaaRows
import Derived.WalkKit
import Derived.ProofKit
import Derived.OpenShut
import Derived.Test.YtifhklnnfnondaaRootCube
namespace Go.Proofs.Ytifhklnnfnondaa.rootCubes
open Go.ChangeShapes Go.WideShapes Go.ChangeAt Go.RowKit
set_option linter.unusedVariables false      -- a walk need not use every 'w<i>' (that an integer argument fits its kind)

theorem own : ownKnob Try.prog.godebug = none := by kernel_rfl

open Go.Proofs.Ytifhklnnfnondaa.Root Go.Proofs.Ytifhklnnfnondaa.Base
theorem cube_small {n : Int} (h0 : 0 < n) (h1 : n ≤ 2642244) :
    0 < n * n * n ∧ n * n * n ≤ 18446744073709551615 ∧ 0 ≤ n * n ∧ n * n ≤ 18446744073709551615 ∧ IsRoot (n * n * n) n ∧ IsRoot (n * n * n - 1) (n - 1) := by
  have e : cub n = n * n * n := rfl
  have a1 : cub n ≤ cub 2642244 := cub_le (by omega) h1
  have a2 : cub 2642244 = 18446703239944862784 := by decide
  have a3 : cub 0 < cub n := cub_lt (by decide) h0
  have a4 : cub 0 = 0 := by decide
  have a5 : n * n ≤ 2642244 * 2642244 := Int.mul_le_mul h1 h1 (by omega) (by decide)
  have a6 := Int.mul_nonneg (Int.le_of_lt h0) (Int.le_of_lt h0)
  have a7 : cub n < cub (n + 1) := cub_lt (by omega) (by omega)
  have a8 : cub (n - 1) < cub n := cub_lt (by omega) (by omega)
  refine ⟨by omega, by omega, a6, by omega, ⟨by omega, by omega, by omega, by omega⟩, ⟨by omega, by omega, by omega, ?_⟩⟩
  rw [show n - 1 + 1 = n by omega]
  omega

/-! ### STEP 1: THE WALK: the Go text returns true. 'Below w.heap.size w w'': the world has at most new blocks (Derived/RowKit3.lean). Part the cases AHEAD of 'go_enter' where a test parts the walk; take each callee by a contract of your own. -/
theorem walk (a0 : Int) (w0 : (Lit.int .u32 a0).wf = true) (w : World) :
    Calls Try.prog 6 #[.int .u32 a0] w fun e w' => e = .returned (.bool true) ∧ Below w.heap.size w w' := by
  obtain ⟨p0, p1⟩ := u32_of w0
  clear w0
  obtain ⟨n, hn⟩ : ∃ n, a0 % 2642245 = n := ⟨_, rfl⟩
  have n0 : 0 ≤ n := by omega
  have n1 : n ≤ 2642244 := by omega
  by_cases hz : n = 0
  · subst hz
    go_enter Try.func6, Try.ntmps6
    go_wp2_with (go_at_call 8; refine (alive_root _).mono ?_; rintro e w' ⟨rfl, rfl⟩)
    go_ret
    exact ⟨rfl, Below.refl _ _⟩
  · obtain ⟨c0, c1, d0, d1, R, R'⟩ := cube_small (show 0 < n by omega) n1
    have e1 : IntKind.u64.wrap (n * n) = n * n := IntWalk.u64_in _ ⟨d0, d1⟩
    have e2 : IntKind.u64.wrap (n * n * n) = n * n * n := IntWalk.u64_in _ ⟨by omega, c1⟩
    go_enter Try.func6, Try.ntmps6
    go_wp2_with (first
      | (go_at_call 8; refine (alive_root _).mono ?_; rintro e w' ⟨rfl, rfl⟩)
      | ((with_reducible refine (cube_of 0 (n * n * n) (by decide) (by decide) (by omega) c1 (by omega) R _).mono ?_); rintro e w' ⟨rfl, rfl⟩)
      | ((with_reducible refine (cube_of 0 (n * n * n - 1) (by decide) (by decide) (by omega) (by omega) (by omega) R' _).mono ?_); rintro e w' ⟨rfl, rfl⟩))
    go_ret
    exact ⟨rfl, Below.refl _ _⟩

/-! ### THE ROW's STEP: WRITTEN OUT: LEAVE IT -/
set_option maxRecDepth 100000 in
theorem lifted (os : Os) (started : os.Started) (H : Type) (enc : TypeId × Value → H) :
    ReturnsInHanded {} Try.checked os 6 .any (Rows.rootCubesSpec.pre6 enc Try.prog Try.f6 Rows.rootCubesRow.domain false) (Rows.rootCubesSpec.post enc Try.prog Try.f6 false true false false) := by
  refine returnsInHanded_of_change (C := Try.checked) own started (by kernel_rfl) Try.func6
    (ChangeSpec.witness6 (enc := enc) (C := Try.checked) false ⟨#[], #[.int .u32 0], []⟩ 8 (by kernel_rfl) (by kernel_rfl) (by kernel_rfl) (by kernel_rfl)) ?_
  intro W base args ds gs before hval0 hW hcnd _
  have hval : ∀ (j : Nat) t v, Try.f6.params[j]? = some t → args[j]? = some v → Value.okWide Try.prog W .any base t v := hval0
  have hW' := hW
  obtain ⟨p, q, hA0, hV, rfl, hfz, hnd⟩ := hW
  have hA : DataW.TrodAll enc Try.prog W 0 (fun _ => true) true Try.f6.params.toList args.toList ds p := hA0
  rw [Try.params6] at hA hval
  obtain ⟨v0, vs0, d0, ds0, p0, q0, hargs, rfl, rfl, h0, r0⟩ := trodAll_cons hA
  obtain ⟨rfl, rfl, rfl⟩ := trodAll_nil r0
  obtain rfl : args = #[v0] := by cases args; simp_all
  obtain ⟨rfl, rfl⟩ := trodVars_none hV
  obtain ⟨a0, rfl, rfl, rfl, w0⟩ := open_int Try.underlying27 (hval 0 27 v0 rfl rfl) h0
  clear hA0 hval0
  simp only [List.append_nil] at hW'
  refine (walk a0 w0 W).mono fun e W' ⟨he, hg⟩ => ?_
  subst he
  exact ⟨_, rfl, Go.Proofs.Ytifhklnnfnondaa.Base.post_below (pa := []) (pv := []) hW' (fun _ _ _ => (trodAll_cons_mk (shut_bool Try.underlying4 _) trodAll_mk0)) (fun sp _ => (trodAll_cons_mk (shut_int Try.underlying27 w0) trodAll_mk0)) (fun _ _ => rfl) rfl
    hg (ok_one (by kernel_rfl) rfl (okWide_bool_mk Try.underlying4 _))⟩

theorem over : Rows.rootCubesRow.holds Try.pinned (OpenSpec.ofChange Rows.rootCubesSpec) :=
  OpenClaim.holds_of_wide 6 Try.f6 rfl rfl rfl rfl rfl rfl rfl ⟨rfl, rfl, rfl, rfl, rfl⟩ rfl rfl rfl rfl rfl (by kernel_rfl) Try.func6 (by kernel_rfl)
    (of_decide_eq_true (by kernel_rfl)) (by unfold Func.isWrapper; first | (rw [if_pos (by decide +kernel)]; kernel_rfl) | (rw [if_neg (by decide +kernel)]; exact ⟨rfl, rfl⟩))
    (fun os started H enc _ => lifted os started H enc)

/-- ████ THE STATEMENT ████ -/
theorem proved : Rows.RootCubesSaid :=
  over
#print axioms proved
end Go.Proofs.Ytifhklnnfnondaa.rootCubes
