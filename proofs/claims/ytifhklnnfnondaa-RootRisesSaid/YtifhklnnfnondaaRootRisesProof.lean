/-
  For any two words up to 2^60, roots rise with what they are of, and eight times as much has twice the root, or one more. No conditions.
-/
import Derived.Test.YtifhklnnfnondaaRows
import Derived.WalkKit
import Derived.ProofKit
import Derived.OpenShut
import Derived.Test.YtifhklnnfnondaaRootCube
namespace Go.Proofs.Ytifhklnnfnondaa.rootRises
open Go.ChangeShapes Go.WideShapes Go.ChangeAt Go.RowKit
set_option linter.unusedVariables false      -- a walk need not use every 'w<i>' (that an integer argument fits its kind)

theorem own : ownKnob Try.prog.godebug = none := by kernel_rfl

open Go.Proofs.Ytifhklnnfnondaa.Root Go.Proofs.Ytifhklnnfnondaa.Base
theorem cub_twice (x : Int) : cub (2 * x) = 8 * cub x := by unfold cub; grind
theorem root_eight {a x z : Int} (h : IsRoot a x) (k : IsRoot (8 * a) z) : 2 * x ≤ z ∧ z ≤ 2 * x + 1 := by
  obtain ⟨x0, x1, x2, x3⟩ := h
  obtain ⟨z0, z1, z2, z3⟩ := k
  have e1 := cub_twice x
  have e2 := cub_twice (x + 1)
  have l1 := lt_of_cub (r := 2 * x) (s := z + 1) (by omega) (by omega)
  have l2 := lt_of_cub (r := z) (s := 2 * (x + 1)) (by omega) (by omega)
  omega

/-! ### STEP 1: THE WALK: the Go text returns true. 'Below w.heap.size w w'': the world has at most new blocks (Derived/RowKit3.lean). Part the cases AHEAD of 'go_enter' where a test parts the walk; take each callee by a contract of your own. -/
theorem walk (a0 : Int) (a1 : Int) (w0 : (Lit.int .u64 a0).wf = true) (w1 : (Lit.int .u64 a1).wf = true) (w : World) :
    Calls Try.prog 7 #[.int .u64 a0, .int .u64 a1] w fun e w' => e = .returned (.bool true) ∧ Below w.heap.size w w' := by
  obtain ⟨p0, p1⟩ := u64_of w0
  obtain ⟨q0, q1⟩ := u64_of w1
  clear w0 w1
  by_cases h : a0 ≤ a1 ∧ a1 ≤ 1152921504606846976
  · obtain ⟨h1, h2⟩ := h
    go_enter Try.func7, Try.ntmps7
    go_wp2_with (first
      | (go_at_call 8; refine (alive_root _).mono ?_; rintro e w' ⟨rfl, rfl⟩)
      | ((with_reducible refine (cube_root 0 a0 (by decide) (by decide) p0 p1 _).mono ?_); rintro e w' ⟨x, rfl, hx, rfl⟩)
      | ((with_reducible refine (cube_of 0 a1 (by decide) (by decide) q0 q1 rfl hy _).mono ?_); rintro e w' ⟨rfl, rfl⟩)
      | ((with_reducible refine (cube_root 0 a1 (by decide) (by decide) q0 q1 _).mono ?_); rintro e w' ⟨y, rfl, hy, rfl⟩; have hxy := root_le hx hy (by omega))
      | ((with_reducible refine (cube_root 0 (8 * a0) (by decide) (by decide) (by omega) (by omega) _).mono ?_); rintro e w' ⟨z, rfl, hz, rfl⟩; obtain ⟨z1, z2⟩ := root_eight hx (by rw [show 8 * (0 * 18446744073709551616 + a0) = 0 * 18446744073709551616 + 8 * a0 by omega]; exact hz); have x0 := hx.1; have x1 := hx.2.1)
      | ((with_reducible refine (cube_root a0 a1 p0 p1 q0 q1 _).mono ?_); rintro e w' ⟨t, rfl, ht, rfl⟩; have hyt := root_le hy ht (by omega)))
    go_ret
    exact ⟨rfl, Below.refl _ _⟩
  · by_cases h1 : a1 < a0
    all_goals
      go_enter Try.func7, Try.ntmps7
      go_wp2_with (go_at_call 8; refine (alive_root _).mono ?_; rintro e w' ⟨rfl, rfl⟩)
      go_ret
      exact ⟨rfl, Below.refl _ _⟩

/-! ### THE ROW's STEP: WRITTEN OUT: LEAVE IT -/
set_option maxRecDepth 100000 in
theorem lifted (os : Os) (started : os.Started) (H : Type) (enc : TypeId × Value → H) :
    ReturnsInHanded {} Try.checked os 7 .any (Rows.rootRisesSpec.pre6 enc Try.prog Try.f7 Rows.rootRisesRow.domain false) (Rows.rootRisesSpec.post enc Try.prog Try.f7 false true false false) := by
  refine returnsInHanded_of_change (C := Try.checked) own started (by kernel_rfl) Try.func7
    (ChangeSpec.witness6 (enc := enc) (C := Try.checked) false ⟨#[], #[.int .u64 0, .int .u64 0], []⟩ 8 (by kernel_rfl) (by kernel_rfl) (by kernel_rfl) (by kernel_rfl)) ?_
  intro W base args ds gs before hval0 hW hcnd _
  have hval : ∀ (j : Nat) t v, Try.f7.params[j]? = some t → args[j]? = some v → Value.okWide Try.prog W .any base t v := hval0
  have hW' := hW
  obtain ⟨p, q, hA0, hV, rfl, hfz, hnd⟩ := hW
  have hA : DataW.TrodAll enc Try.prog W 0 (fun _ => true) true Try.f7.params.toList args.toList ds p := hA0
  rw [Try.params7] at hA hval
  obtain ⟨v0, vs0, d0, ds0, p0, q0, hargs, rfl, rfl, h0, r0⟩ := trodAll_cons hA
  obtain ⟨v1, vs1, d1, ds1, p1, q1, rfl, rfl, rfl, h1, r1⟩ := trodAll_cons r0
  obtain ⟨rfl, rfl, rfl⟩ := trodAll_nil r1
  obtain rfl : args = #[v0, v1] := by cases args; simp_all
  obtain ⟨rfl, rfl⟩ := trodVars_none hV
  obtain ⟨a0, rfl, rfl, rfl, w0⟩ := open_int Try.underlying22 (hval 0 22 v0 rfl rfl) h0
  obtain ⟨a1, rfl, rfl, rfl, w1⟩ := open_int Try.underlying22 (hval 1 22 v1 rfl rfl) h1
  clear hA0 hval0
  simp only [List.append_nil] at hW'
  refine (walk a0 a1 w0 w1 W).mono fun e W' ⟨he, hg⟩ => ?_
  subst he
  exact ⟨_, rfl, Go.Proofs.Ytifhklnnfnondaa.Base.post_below (pa := []) (pv := []) hW' (fun _ _ _ => (trodAll_cons_mk (shut_bool Try.underlying4 _) trodAll_mk0)) (fun sp _ => (trodAll_cons_mk (shut_int Try.underlying22 w0) (trodAll_cons_mk (shut_int Try.underlying22 w1) trodAll_mk0))) (fun _ _ => rfl) rfl
    hg (ok_one (by kernel_rfl) rfl (okWide_bool_mk Try.underlying4 _))⟩

theorem over : Rows.rootRisesRow.holds Try.pinned (OpenSpec.ofChange Rows.rootRisesSpec) :=
  OpenClaim.holds_of_wide 7 Try.f7 rfl rfl rfl rfl rfl rfl rfl ⟨rfl, rfl, rfl, rfl, rfl⟩ rfl rfl rfl rfl rfl (by kernel_rfl) Try.func7 (by kernel_rfl)
    (of_decide_eq_true (by kernel_rfl)) (by unfold Func.isWrapper; first | (rw [if_pos (by decide +kernel)]; kernel_rfl) | (rw [if_neg (by decide +kernel)]; exact ⟨rfl, rfl⟩))
    (fun os started H enc _ => lifted os started H enc)

/-- ████ THE STATEMENT ████ -/
theorem proved : Rows.RootRisesSaid :=
  over
#print axioms proved
end Go.Proofs.Ytifhklnnfnondaa.rootRises
