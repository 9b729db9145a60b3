/-
  For any two amounts, sat.Sub of their sum and one of them is the other one, where the sum is below Top. No conditions.
-/
import Derived.Test.YtlfnegbhegfeeaaRows
import Derived.WalkKit
import Derived.ProofKit
import Derived.OpenShut
import Derived.Test.YtlfnegbhegfeeaaSatAlive
namespace Go.Proofs.Ytlfnegbhegfeeaa.satBack
open Go.ChangeShapes Go.WideShapes Go.ChangeAt Go.RowKit
set_option linter.unusedVariables false      -- a walk need not use every 'w<i>' (that an integer argument fits its kind)

theorem own : ownKnob Try.prog.godebug = none := by kernel_rfl

open Go.Proofs.Ytlfnegbhegfeeaa.Sat

/-! ### STEP 1: THE WALK: the Go text returns true. 'Grown w w'': the world has at most new blocks (Derived/RowKit3.lean). Part the cases AHEAD of 'go_enter' where a test parts the walk; take each callee by a contract of your own. -/
theorem walk (a0 : Int) (a1 : Int) (w0 : (Lit.int .u64 a0).wf = true) (w1 : (Lit.int .u64 a1).wf = true) (w : World) :
    Calls Try.prog 5 #[.int .u64 a0, .int .u64 a1] w fun e w' => e = .returned (.bool true) ∧ Grown w w' := by
  obtain ⟨p0, p1⟩ := u64_of w0
  obtain ⟨q0, q1⟩ := u64_of w1
  clear w0 w1
  obtain ⟨s0, s1⟩ := add_bd p0 q0
  by_cases h : add a0 a1 = 18446744073709551615
  · have t0 : ((add a0 a1 : Int) == 18446744073709551615) = true := by simpa using h
    have hle : sub (add a0 a1) a0 ≤ a1 ∨ a0 ≤ 18446744073709551615 - a1 := by
      rw [h]; unfold sub; unfold add at h; split <;> split at h <;> omega
    by_cases h2 : sub (add a0 a1) a0 ≤ a1
    · clear hle h
      go_enter Try.func5, Try.ntmps5
      go_wp2_with (first
        | (go_at_call 10; refine (alive_any _).mono ?_; rintro e w' ⟨rfl, rfl⟩)
        | (go_at_call 11; refine (add_any a0 a1 p0 p1 q0 q1 _).mono ?_; rintro e w' ⟨rfl, rfl⟩)
        | (go_at_call 13; refine (sub_any (add a0 a1) a0 s0 s1 p0 p1 _).mono ?_; rintro e w' ⟨rfl, rfl⟩))
      go_ret
      exact ⟨rfl, Grown.refl _⟩
    · have h3 := hle.resolve_left h2
      clear hle h
      go_enter Try.func5, Try.ntmps5
      go_wp2_with (first
        | (go_at_call 10; refine (alive_any _).mono ?_; rintro e w' ⟨rfl, rfl⟩)
        | (go_at_call 11; refine (add_any a0 a1 p0 p1 q0 q1 _).mono ?_; rintro e w' ⟨rfl, rfl⟩)
        | (go_at_call 13; refine (sub_any (add a0 a1) a0 s0 s1 p0 p1 _).mono ?_; rintro e w' ⟨rfl, rfl⟩))
      go_ret
      exact ⟨rfl, Grown.refl _⟩
  · have t0 : ((add a0 a1 : Int) == 18446744073709551615) = false := by simpa using h
    have e : add a0 a1 = a0 + a1 := by unfold add at h ⊢; split <;> simp_all
    have e1 := Lib.hid (show sub (add a0 a1) a0 = a1 by rw [e]; unfold sub; split <;> omega)
    have e2 := Lib.hid (show sub (add a0 a1) a1 = a0 by rw [e]; unfold sub; split <;> omega)
    have e3 := Lib.hid (show sub a0 (add a0 a1) = 0 by rw [e]; unfold sub; split <;> omega)
    clear h e
    go_enter Try.func5, Try.ntmps5
    go_wp2_with (first
      | (go_at_call 10; refine (alive_any _).mono ?_; rintro e w' ⟨rfl, rfl⟩)
      | (go_at_call 11; refine (add_any a0 a1 p0 p1 q0 q1 _).mono ?_; rintro e w' ⟨rfl, rfl⟩)
      | ((with_reducible refine (sub_any (add a0 a1) a0 s0 s1 p0 p1 _).mono ?_); rw [e1.out]; rintro e w' ⟨rfl, rfl⟩)
      | ((with_reducible refine (sub_any (add a0 a1) a1 s0 s1 q0 q1 _).mono ?_); rw [e2.out]; rintro e w' ⟨rfl, rfl⟩)
      | ((with_reducible refine (sub_any a0 (add a0 a1) p0 p1 s0 s1 _).mono ?_); rw [e3.out]; rintro e w' ⟨rfl, rfl⟩))
    go_ret
    exact ⟨rfl, Grown.refl _⟩

/-! ### THE ROW's STEP: WRITTEN OUT: LEAVE IT -/
set_option maxRecDepth 100000 in
theorem lifted (os : Os) (started : os.Started) (H : Type) (enc : TypeId × Value → H) :
    ReturnsInHanded {} Try.checked os 5 .any (Rows.satBackSpec.pre6 enc Try.prog Try.f5 Rows.satBackRow.domain false) (Rows.satBackSpec.post enc Try.prog Try.f5 false true false false) := by
  refine returnsInHanded_of_change (C := Try.checked) own started (by kernel_rfl) Try.func5
    (ChangeSpec.witness6 (enc := enc) (C := Try.checked) false ⟨#[], #[.int .u64 0, .int .u64 0], []⟩ 8 (by kernel_rfl) (by kernel_rfl) (by kernel_rfl) (by kernel_rfl)) ?_
  intro W base args ds gs before hval0 hW hcnd _
  have hval : ∀ (j : Nat) t v, Try.f5.params[j]? = some t → args[j]? = some v → Value.okWide Try.prog W .any base t v := hval0
  have hW' := hW
  obtain ⟨p, q, hA0, hV, rfl, hfz, hnd⟩ := hW
  have hA : DataW.TrodAll enc Try.prog W 0 (fun _ => true) true Try.f5.params.toList args.toList ds p := hA0
  rw [Try.params5] at hA hval
  obtain ⟨v0, vs0, d0, ds0, p0, q0, hargs, rfl, rfl, h0, r0⟩ := trodAll_cons hA
  obtain ⟨v1, vs1, d1, ds1, p1, q1, rfl, rfl, rfl, h1, r1⟩ := trodAll_cons r0
  obtain ⟨rfl, rfl, rfl⟩ := trodAll_nil r1
  obtain rfl : args = #[v0, v1] := by cases args; simp_all
  obtain ⟨rfl, rfl⟩ := trodVars_none hV
  obtain ⟨a0, rfl, rfl, rfl, w0⟩ := open_int Try.underlying22 (hval 0 22 v0 rfl rfl) h0
  obtain ⟨a1, rfl, rfl, rfl, w1⟩ := open_int Try.underlying22 (hval 1 22 v1 rfl rfl) h1
  clear hA0 hval0
  simp only [List.append_nil] at hW'
  refine (walk a0 a1 w0 w1 W).mono fun e W' ⟨he, hg⟩ => ?_
  subst he
  exact ⟨_, rfl, post_of_same (pa := []) (pv := []) hW' (fun _ _ _ => (trodAll_cons_mk (shut_bool Try.underlying4 _) trodAll_mk0)) (fun sp _ => (trodAll_cons_mk (shut_int Try.underlying22 w0) (trodAll_cons_mk (shut_int Try.underlying22 w1) trodAll_mk0))) (fun _ _ => rfl) rfl
    (hg.frame _) hg.2.1 (ok_one (by kernel_rfl) rfl (okWide_bool_mk Try.underlying4 _))⟩

theorem over : Rows.satBackRow.holds Try.pinned (OpenSpec.ofChange Rows.satBackSpec) :=
  OpenClaim.holds_of_wide 5 Try.f5 rfl rfl rfl rfl rfl rfl rfl ⟨rfl, rfl, rfl, rfl, rfl⟩ rfl rfl rfl rfl rfl (by kernel_rfl) Try.func5 (by kernel_rfl)
    (of_decide_eq_true (by kernel_rfl)) (by unfold Func.isWrapper; first | (rw [if_pos (by decide +kernel)]; kernel_rfl) | (rw [if_neg (by decide +kernel)]; exact ⟨rfl, rfl⟩))
    (fun os started H enc _ => lifted os started H enc)

/-- ████ THE STATEMENT ████ -/
theorem proved : Rows.SatBackSaid :=
  over
#print axioms proved
end Go.Proofs.Ytlfnegbhegfeeaa.satBack
