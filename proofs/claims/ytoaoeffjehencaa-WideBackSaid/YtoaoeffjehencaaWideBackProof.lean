/-
  For any three words, the quotient times the divisor, and the remainder, are what was divided; without a quotient the answers are zero. No conditions.
-/
import Derived.Test.YtoaoeffjehencaaRows
import Derived.WalkKit
import Derived.ProofKit
import Derived.OpenShut
import Derived.Test.YtoaoeffjehencaaWideRnd
namespace Go.Proofs.Ytoaoeffjehencaa.wideBack
open Go.ChangeShapes Go.WideShapes Go.ChangeAt Go.RowKit
set_option linter.unusedVariables false      -- a walk need not use every 'w<i>' (that an integer argument fits its kind)

theorem own : ownKnob Try.prog.godebug = none := by kernel_rfl

open Go.Proofs.Ytoaoeffjehencaa.Wide Go.Proofs.Ytoaoeffjehencaa.Base

/-! ### STEP 1: THE WALK: the Go text returns true. 'Below w.heap.size w w'': the world has at most new blocks (Derived/RowKit3.lean). Part the cases AHEAD of 'go_enter' where a test parts the walk; take each callee by a contract of your own. -/
theorem walk (a0 : Int) (a1 : Int) (a2 : Int) (w0 : (Lit.int .u64 a0).wf = true) (w1 : (Lit.int .u64 a1).wf = true) (w2 : (Lit.int .u64 a2).wf = true) (w : World) :
    Calls Try.prog 5 #[.int .u64 a0, .int .u64 a1, .int .u64 a2] w fun e w' => e = .returned (.bool true) ∧ Below w.heap.size w w' := by
  obtain ⟨p0, p1⟩ := u64_of w0
  obtain ⟨q0, q1⟩ := u64_of w1
  obtain ⟨r0, r1⟩ := u64_of w2
  clear w0 w1 w2
  by_cases h : a0 < a2
  · have e := Int.mul_ediv_add_emod (a0 * 18446744073709551616 + a1) a2
    obtain ⟨Q0, Q1, R0, R1⟩ := quo_bd (x := a0 * 18446744073709551616 + a1) (d := a2) (by omega) (by omega)
    rw [Int.mul_comm] at e
    obtain ⟨Q, eQ⟩ : ∃ Q, (a0 * 18446744073709551616 + a1) / a2 = Q := ⟨_, rfl⟩
    obtain ⟨R, eR⟩ : ∃ R, (a0 * 18446744073709551616 + a1) % a2 = R := ⟨_, rfl⟩
    have EQ := Lib.hid eQ
    have ER := Lib.hid eR
    rw [eQ] at e Q0 Q1
    rw [eR] at e R0 R1
    clear eQ eR
    by_cases hc : R ≤ a1
    · have EH := Lib.hid (show Q * a2 / 18446744073709551616 = a0 by omega)
      have EL := Lib.hid (show Q * a2 % 18446744073709551616 = a1 - R by omega)
      clear e
      go_enter Try.func5, Try.ntmps5
      go_wp2_with (first
        | (go_at_call 9; refine (alive_wide _).mono ?_; rintro e wa ⟨rfl, ha⟩)
        | (go_at_call 12; refine (div_yes a0 a1 a2 p0 h q0 q1 r1 _).mono ?_; rw [EQ.out, ER.out]; rintro e wd ⟨rfl, hd⟩)
        | (go_at_call 10; refine (mul_any Q a2 Q0 Q1 r0 r1 _).mono ?_; rw [EH.out, EL.out]; rintro e w' ⟨rfl, rfl⟩))
      go_ret
      exact ⟨rfl, next ha hd⟩
    · have EH := Lib.hid (show Q * a2 / 18446744073709551616 = a0 - 1 by omega)
      have EL := Lib.hid (show Q * a2 % 18446744073709551616 = a1 - R + 18446744073709551616 by omega)
      have s0 : 0 ≤ Q * a2 := Int.mul_nonneg Q0 r0
      have s1 : 1 ≤ a0 := by omega
      have s2 : IntKind.u64.wrap (a1 - R + 18446744073709551616 + R) = a1 := by rw [u64_mod]; omega
      clear e s0
      go_enter Try.func5, Try.ntmps5
      go_wp2_with (first
        | (go_at_call 9; refine (alive_wide _).mono ?_; rintro e wa ⟨rfl, ha⟩)
        | (go_at_call 12; refine (div_yes a0 a1 a2 p0 h q0 q1 r1 _).mono ?_; rw [EQ.out, ER.out]; rintro e wd ⟨rfl, hd⟩)
        | (go_at_call 10; refine (mul_any Q a2 Q0 Q1 r0 r1 _).mono ?_; rw [EH.out, EL.out]; rintro e w' ⟨rfl, rfl⟩))
      go_ret
      exact ⟨rfl, next ha hd⟩
  · go_enter Try.func5, Try.ntmps5
    go_wp2_with (first
      | (go_at_call 9; refine (alive_wide _).mono ?_; rintro e wa ⟨rfl, ha⟩)
      | (go_at_call 12; refine (div_no a0 a1 a2 (by omega) _).mono ?_; rintro e w' ⟨rfl, rfl⟩))
    go_ret
    exact ⟨rfl, ha⟩

/-! ### THE ROW's STEP: WRITTEN OUT: LEAVE IT -/
set_option maxRecDepth 100000 in
theorem lifted (os : Os) (started : os.Started) (H : Type) (enc : TypeId × Value → H) :
    ReturnsInHanded {} Try.checked os 5 .any (Rows.wideBackSpec.pre6 enc Try.prog Try.f5 Rows.wideBackRow.domain false) (Rows.wideBackSpec.post enc Try.prog Try.f5 false true false false) := by
  refine returnsInHanded_of_change (C := Try.checked) own started (by kernel_rfl) Try.func5
    (ChangeSpec.witness6 (enc := enc) (C := Try.checked) false ⟨#[], #[.int .u64 0, .int .u64 0, .int .u64 0], []⟩ 8 (by kernel_rfl) (by kernel_rfl) (by kernel_rfl) (by kernel_rfl)) ?_
  intro W base args ds gs before hval0 hW hcnd _
  have hval : ∀ (j : Nat) t v, Try.f5.params[j]? = some t → args[j]? = some v → Value.okWide Try.prog W .any base t v := hval0
  have hW' := hW
  obtain ⟨p, q, hA0, hV, rfl, hfz, hnd⟩ := hW
  have hA : DataW.TrodAll enc Try.prog W 0 (fun _ => true) true Try.f5.params.toList args.toList ds p := hA0
  rw [Try.params5] at hA hval
  obtain ⟨v0, vs0, d0, ds0, p0, q0, hargs, rfl, rfl, h0, r0⟩ := trodAll_cons hA
  obtain ⟨v1, vs1, d1, ds1, p1, q1, rfl, rfl, rfl, h1, r1⟩ := trodAll_cons r0
  obtain ⟨v2, vs2, d2, ds2, p2, q2, rfl, rfl, rfl, h2, r2⟩ := trodAll_cons r1
  obtain ⟨rfl, rfl, rfl⟩ := trodAll_nil r2
  obtain rfl : args = #[v0, v1, v2] := by cases args; simp_all
  obtain ⟨rfl, rfl⟩ := trodVars_none hV
  obtain ⟨a0, rfl, rfl, rfl, w0⟩ := open_int Try.underlying22 (hval 0 22 v0 rfl rfl) h0
  obtain ⟨a1, rfl, rfl, rfl, w1⟩ := open_int Try.underlying22 (hval 1 22 v1 rfl rfl) h1
  obtain ⟨a2, rfl, rfl, rfl, w2⟩ := open_int Try.underlying22 (hval 2 22 v2 rfl rfl) h2
  clear hA0 hval0
  simp only [List.append_nil] at hW'
  refine (walk a0 a1 a2 w0 w1 w2 W).mono fun e W' ⟨he, hg⟩ => ?_
  subst he
  exact ⟨_, rfl, Go.Proofs.Ytoaoeffjehencaa.Base.post_below (pa := []) (pv := []) hW' (fun _ _ _ => (trodAll_cons_mk (shut_bool Try.underlying4 _) trodAll_mk0)) (fun sp _ => (trodAll_cons_mk (shut_int Try.underlying22 w0) (trodAll_cons_mk (shut_int Try.underlying22 w1) (trodAll_cons_mk (shut_int Try.underlying22 w2) trodAll_mk0)))) (fun _ _ => rfl) rfl
    hg (ok_one (by kernel_rfl) rfl (okWide_bool_mk Try.underlying4 _))⟩

theorem over : Rows.wideBackRow.holds Try.pinned (OpenSpec.ofChange Rows.wideBackSpec) :=
  OpenClaim.holds_of_wide 5 Try.f5 rfl rfl rfl rfl rfl rfl rfl ⟨rfl, rfl, rfl, rfl, rfl⟩ rfl rfl rfl rfl rfl (by kernel_rfl) Try.func5 (by kernel_rfl)
    (of_decide_eq_true (by kernel_rfl)) (by unfold Func.isWrapper; first | (rw [if_pos (by decide +kernel)]; kernel_rfl) | (rw [if_neg (by decide +kernel)]; exact ⟨rfl, rfl⟩))
    (fun os started H enc _ => lifted os started H enc)

/-- ████ THE STATEMENT ████ -/
theorem proved : Rows.WideBackSaid :=
  over
#print axioms proved
end Go.Proofs.Ytoaoeffjehencaa.wideBack
