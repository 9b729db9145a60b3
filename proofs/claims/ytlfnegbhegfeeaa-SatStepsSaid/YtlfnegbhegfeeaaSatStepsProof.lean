/-
  For any amount and any two counts of 8 bits, two shifts one behind the other are one shift by both counts together, and a shift by one is a sum with itself. No conditions.
-/
import Derived.Test.YtlfnegbhegfeeaaRows
import Derived.WalkKit
import Derived.ProofKit
import Derived.OpenShut
import Derived.Test.YtlfnegbhegfeeaaSatAlive
namespace Go.Proofs.Ytlfnegbhegfeeaa.satSteps
open Go.ChangeShapes Go.WideShapes Go.ChangeAt Go.RowKit
set_option linter.unusedVariables false      -- a walk need not use every 'w<i>' (that an integer argument fits its kind)

theorem own : ownKnob Try.prog.godebug = none := by kernel_rfl

open Go.Proofs.Ytlfnegbhegfeeaa.Sat
theorem shl_shl {a m n : Int} (h0 : 0 ≤ a) (hm : 0 ≤ m) (hn : 0 ≤ n) : shl (shl a m) n = shl a (m + n) := by
  have e : (m + n).toNat = m.toNat + n.toNat := by omega
  have h1 := pw_nonneg h0 m.toNat
  have h2 := pw_le h0 m.toNat n.toNat
  by_cases h : pw a m.toNat ≤ 18446744073709551615
  · rw [shl_fits h]
    unfold shl
    rw [e, pw_add]
  · rw [shl_over (a := a) (n := m) (by omega), shl_over (a := a) (n := m + n) (by rw [e]; omega)]
    have h3 := pw_le (a := 18446744073709551615) (by decide) 0 n.toNat
    rw [pw_zero, Nat.zero_add] at h3
    unfold shl; split <;> omega
theorem shl_one {a : Int} : shl a 1 = add a a := by
  have e : pw a (1 : Int).toNat = a * 2 := by show pw a (0 + 1) = _; rw [pw_succ, pw_zero]
  unfold shl add; rw [e]; split <;> split <;> omega

/-! ### STEP 1: THE WALK: the Go text returns true. 'Grown w w'': the world has at most new blocks (Derived/RowKit3.lean). Part the cases AHEAD of 'go_enter' where a test parts the walk; take each callee by a contract of your own. -/
theorem walk (a0 : Int) (a1 : Int) (a2 : Int) (w0 : (Lit.int .u64 a0).wf = true) (w1 : (Lit.int .u8 a1).wf = true) (w2 : (Lit.int .u8 a2).wf = true) (w : World) :
    Calls Try.prog 7 #[.int .u64 a0, .int .u8 a1, .int .u8 a2] w fun e w' => e = .returned (.bool true) ∧ Grown w w' := by
  obtain ⟨p0, p1⟩ := u64_of w0
  obtain ⟨q0, q1⟩ := u8_of w1
  obtain ⟨r0, r1⟩ := u8_of w2
  obtain ⟨s0, s1⟩ := shl_bd (n := a1) p0
  have E := Lib.hid (shl_shl (a := a0) p0 q0 r0)
  have F := Lib.hid (shl_one (a := a0))
  clear w0 w1 w2
  go_enter Try.func7, Try.ntmps7
  go_wp2_with (first
    | (go_at_call 10; refine (alive_any _).mono ?_; rintro e w' ⟨rfl, rfl⟩)
    | (go_at_call 11; refine (add_any a0 a0 p0 p1 p0 p1 _).mono ?_; rintro e w' ⟨rfl, rfl⟩)
    | ((with_reducible refine (shl_any a0 a1 p0 p1 (by omega) (by omega) _).mono ?_); rintro e w' ⟨rfl, rfl⟩)
    | ((with_reducible refine (shl_any (shl a0 a1) a2 s0 s1 (by omega) (by omega) _).mono ?_); rw [E.out]; rintro e w' ⟨rfl, rfl⟩)
    | ((with_reducible refine (shl_any a0 (a1 + a2) p0 p1 (by omega) (by omega) _).mono ?_); rintro e w' ⟨rfl, rfl⟩)
    | ((with_reducible refine (shl_any a0 1 p0 p1 (by omega) (by omega) _).mono ?_); rw [F.out]; rintro e w' ⟨rfl, rfl⟩))
  go_ret
  exact ⟨rfl, Grown.refl _⟩

/-! ### THE ROW's STEP: WRITTEN OUT: LEAVE IT -/
set_option maxRecDepth 100000 in
theorem lifted (os : Os) (started : os.Started) (H : Type) (enc : TypeId × Value → H) :
    ReturnsInHanded {} Try.checked os 7 .any (Rows.satStepsSpec.pre6 enc Try.prog Try.f7 Rows.satStepsRow.domain false) (Rows.satStepsSpec.post enc Try.prog Try.f7 false true false false) := by
  refine returnsInHanded_of_change (C := Try.checked) own started (by kernel_rfl) Try.func7
    (ChangeSpec.witness6 (enc := enc) (C := Try.checked) false ⟨#[], #[.int .u64 0, .int .u8 0, .int .u8 0], []⟩ 8 (by kernel_rfl) (by kernel_rfl) (by kernel_rfl) (by kernel_rfl)) ?_
  intro W base args ds gs before hval0 hW hcnd _
  have hval : ∀ (j : Nat) t v, Try.f7.params[j]? = some t → args[j]? = some v → Value.okWide Try.prog W .any base t v := hval0
  have hW' := hW
  obtain ⟨p, q, hA0, hV, rfl, hfz, hnd⟩ := hW
  have hA : DataW.TrodAll enc Try.prog W 0 (fun _ => true) true Try.f7.params.toList args.toList ds p := hA0
  rw [Try.params7] at hA hval
  obtain ⟨v0, vs0, d0, ds0, p0, q0, hargs, rfl, rfl, h0, r0⟩ := trodAll_cons hA
  obtain ⟨v1, vs1, d1, ds1, p1, q1, rfl, rfl, rfl, h1, r1⟩ := trodAll_cons r0
  obtain ⟨v2, vs2, d2, ds2, p2, q2, rfl, rfl, rfl, h2, r2⟩ := trodAll_cons r1
  obtain ⟨rfl, rfl, rfl⟩ := trodAll_nil r2
  obtain rfl : args = #[v0, v1, v2] := by cases args; simp_all
  obtain ⟨rfl, rfl⟩ := trodVars_none hV
  obtain ⟨a0, rfl, rfl, rfl, w0⟩ := open_int Try.underlying22 (hval 0 22 v0 rfl rfl) h0
  obtain ⟨a1, rfl, rfl, rfl, w1⟩ := open_int Try.underlying5 (hval 1 5 v1 rfl rfl) h1
  obtain ⟨a2, rfl, rfl, rfl, w2⟩ := open_int Try.underlying5 (hval 2 5 v2 rfl rfl) h2
  clear hA0 hval0
  simp only [List.append_nil] at hW'
  refine (walk a0 a1 a2 w0 w1 w2 W).mono fun e W' ⟨he, hg⟩ => ?_
  subst he
  exact ⟨_, rfl, post_of_same (pa := []) (pv := []) hW' (fun _ _ _ => (trodAll_cons_mk (shut_bool Try.underlying4 _) trodAll_mk0)) (fun sp _ => (trodAll_cons_mk (shut_int Try.underlying22 w0) (trodAll_cons_mk (shut_int Try.underlying5 w1) (trodAll_cons_mk (shut_int Try.underlying5 w2) trodAll_mk0)))) (fun _ _ => rfl) rfl
    (hg.frame _) hg.2.1 (ok_one (by kernel_rfl) rfl (okWide_bool_mk Try.underlying4 _))⟩

theorem over : Rows.satStepsRow.holds Try.pinned (OpenSpec.ofChange Rows.satStepsSpec) :=
  OpenClaim.holds_of_wide 7 Try.f7 rfl rfl rfl rfl rfl rfl rfl ⟨rfl, rfl, rfl, rfl, rfl⟩ rfl rfl rfl rfl rfl (by kernel_rfl) Try.func7 (by kernel_rfl)
    (of_decide_eq_true (by kernel_rfl)) (by unfold Func.isWrapper; first | (rw [if_pos (by decide +kernel)]; kernel_rfl) | (rw [if_neg (by decide +kernel)]; exact ⟨rfl, rfl⟩))
    (fun os started H enc _ => lifted os started H enc)

/-- ████ THE STATEMENT ████ -/
theorem proved : Rows.SatStepsSaid :=
  over
#print axioms proved
end Go.Proofs.Ytlfnegbhegfeeaa.satSteps
