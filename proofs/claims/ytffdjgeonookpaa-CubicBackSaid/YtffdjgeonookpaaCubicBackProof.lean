/-
  A window that comes back to its peak begins no lower than it was cut to. No conditions.
-/
import Derived.Test.YtffdjgeonookpaaRows
import Derived.Test.YtffdjgeonookpaaRow
import Derived.WalkKit
import Derived.ProofKit
import Derived.OpenShut
import Derived.ShutString
import Derived.ChangeOld
import Derived.Below
import Derived.Test.YtffdjgeonookpaaCubicAlive
namespace Go.Proofs.Ytffdjgeonookpaa.cubicBack
open Go.ChangeShapes Go.WideShapes Go.ChangeAt Go.RowKit
open Go.ChangeMaps (open_string shut_string)
open Go.Proofs.Ytffdjgeonookpaa.Base
set_option linter.unusedVariables false
set_option linter.unusedSimpArgs false

theorem own : ownKnob Try.prog.godebug = none := by kernel_rfl
theorem laidOut : laidOutB Try.prog = true := by kernel_rfl

open Go.Proofs.Ytffdjgeonookpaa.Cubic Go.Proofs.Ytffdjgeonookpaa.CubicPlain Go.Proofs.Ytffdjgeonookpaa.Reno Go.Proofs.Ytffdjgeonookpaa.RenoPlain Go.Proofs.Ytffdjgeonookpaa.Hop
set_option maxHeartbeats 4000000 in
set_option maxRecDepth 20000 in
theorem walk (a0 : Int) (a1 : Int) (a2 : Int) (w : World) (w0 : (Lit.int .u32 a0).wf = true) (w1 : (Lit.int .u32 a1).wf = true) (w2 : (Lit.int .u32 a2).wf = true) :
    Calls Try.prog 8 #[.int .u32 a0, .int .u32 a1, .int .u32 a2] w fun e w' => e = .returned (.bool true) ∧ Below w.heap.size w w' := by
  obtain ⟨p0, p1⟩ := Base.u32_of w0
  obtain ⟨c0, c1⟩ := Base.u32_of w1
  obtain ⟨m0, m1⟩ := Base.u32_of w2
  have CA := fun V => alive_cubic V
  obtain ⟨p, hp⟩ : ∃ p, a0 % 1073741824 = p := ⟨_, rfl⟩
  obtain ⟨c, hc⟩ : ∃ c, a1 % 1073741824 = c := ⟨_, rfl⟩
  obtain ⟨m, hm⟩ : ∃ m, a2 % 1500 + 1 = m := ⟨_, rfl⟩
  have e1 : a0.tmod 1073741824 = p := by rw [Int.tmod_eq_emod_of_nonneg p0, hp]
  have e2 : a1.tmod 1073741824 = c := by rw [Int.tmod_eq_emod_of_nonneg c0, hc]
  have e3 : a2.tmod 1500 + 1 = m := by rw [Int.tmod_eq_emod_of_nonneg m0, hm]
  have bp : 0 ≤ p ∧ p < 1073741824 := by omega
  have bc : 0 ≤ c ∧ c < 1073741824 := by omega
  have bm : 1 ≤ m ∧ m ≤ 1500 := by omega
  by_cases hcp : p < c
  · go_enter Try.func8, Try.ntmps8
    go_wp2_with (first
      | (go_at_call 11; (with_reducible refine (CA w).mono ?_); rintro e u1 ⟨rfl, L1⟩)
      | (go_at_call 11; (with_reducible refine (CA u1).mono ?_); rintro e u2 ⟨rfl, L2⟩))
    all_goals go_ret
    all_goals exact ⟨rfl, Base.next L1 L2⟩
  · have up : U p := ⟨by omega, by omega⟩
    have uc : U c := ⟨by omega, by omega⟩
    have um : U m := ⟨by omega, by omega⟩
    have C1 := fun V => long_any p c m up uc um V
    have uk := longC_bd up uc um
    obtain ⟨h1, h2, h3⟩ := back_is bc.1 (show c ≤ p by omega) up.2 bm.1 (show m ≤ 1000000 by omega)
    have h4 := at_peak (k := longC p c m) (mss := m) up
    generalize longC p c m = k at *
    have C2 := fun V => atC_any p k 0 m up uk (uC 0) um V
    have C3 := fun V => atC_any p k k m up uk uk um V
    rw [h4] at C3
    clear h4
    generalize atC p k 0 m = x at *
    by_cases hlt : c < p
    · clear h3
      go_enter Try.func8, Try.ntmps8
      go_wp2_with (first
        | (go_at_call 11; refine (CA w).mono ?_; rintro e u1 ⟨rfl, L1⟩)
        | (go_at_call 12; refine (C1 u1).mono ?_; rintro e u2 ⟨rfl, L2⟩; have M2 := Base.next L1 L2)
        | (go_at_call 14; (with_reducible refine (C2 u2).mono ?_); rintro e u3 ⟨rfl, L3⟩; have M3 := Base.next M2 L3)
        | (go_at_call 14; (with_reducible refine (C3 u3).mono ?_); rintro e u4 ⟨rfl, L4⟩; have M4 := Base.next M3 L4))
      all_goals go_ret
      all_goals exact ⟨rfl, M4⟩
    · have hk := h3 (by omega)
      subst hk
      clear h3
      go_enter Try.func8, Try.ntmps8
      go_wp2_with (first
        | (go_at_call 11; refine (CA w).mono ?_; rintro e u1 ⟨rfl, L1⟩)
        | (go_at_call 12; refine (C1 u1).mono ?_; rintro e u2 ⟨rfl, L2⟩; have M2 := Base.next L1 L2)
        | (go_at_call 14; (with_reducible refine (C2 u2).mono ?_); rintro e u3 ⟨rfl, L3⟩; have M3 := Base.next M2 L3)
        | (go_at_call 14; (with_reducible refine (C3 u3).mono ?_); rintro e u4 ⟨rfl, L4⟩; have M4 := Base.next M3 L4))
      all_goals go_ret
      all_goals exact ⟨rfl, M4⟩

set_option maxRecDepth 100000 in
theorem lifted (os : Os) (started : os.Started) (H : Type) (enc : TypeId × Value → H) :
    ReturnsInHanded {} Try.checked os 8 .any (Rows.cubicBackSpec.pre6 enc Try.prog Try.f8 Rows.cubicBackRow.domain false) (Rows.cubicBackSpec.post enc Try.prog Try.f8 false true false false) := by
  refine returnsInHanded_of_change (C := Try.checked) own started (by kernel_rfl) Try.func8
    (ChangeSpec.witness6 (enc := enc) (C := Try.checked) false ⟨#[], #[.int .u32 0, .int .u32 0, .int .u32 0], []⟩ 8 (by kernel_rfl) (by kernel_rfl) (by kernel_rfl) (by kernel_rfl)) ?_
  intro W base args ds gs before hval0 hW hcnd _
  have hval : ∀ (j : Nat) t v, Try.f8.params[j]? = some t → args[j]? = some v → Value.okWide Try.prog W .any base t v := hval0
  have hW' := hW
  obtain ⟨p, q, hA0, hV, rfl, hfz, hnd⟩ := hW
  have hA : DataW.TrodAll enc Try.prog W 0 (fun _ => true) true Try.f8.params.toList args.toList ds p := hA0
  rw [Try.params8] at hA hval
  obtain ⟨v0, vs0, d0, ds0, p0, q0, hargs, rfl, rfl, h0, r0⟩ := trodAll_cons hA
  obtain ⟨v1, vs1, d1, ds1, p1, q1, rfl, rfl, rfl, h1, r1⟩ := trodAll_cons r0
  obtain ⟨v2, vs2, d2, ds2, p2, q2, rfl, rfl, rfl, h2, r2⟩ := trodAll_cons r1
  obtain ⟨rfl, rfl, rfl⟩ := trodAll_nil r2
  obtain rfl : args = #[v0, v1, v2] := by cases args; simp_all
  obtain ⟨rfl, rfl⟩ := trodVars_none hV
  obtain ⟨a0, rfl, rfl, rfl, w0⟩ := open_int Try.underlying35 (hval 0 35 v0 rfl rfl) h0
  obtain ⟨a1, rfl, rfl, rfl, w1⟩ := open_int Try.underlying35 (hval 1 35 v1 rfl rfl) h1
  obtain ⟨a2, rfl, rfl, rfl, w2⟩ := open_int Try.underlying35 (hval 2 35 v2 rfl rfl) h2
  clear hA0 hval0
  refine (walk a0 a1 a2 W w0 w1 w2).mono fun e W' ⟨he, bel⟩ => ?_
  subst he
  exact ⟨_, rfl, _, _, _, [], _, [], hW', trodAll_mk1 (shut_bool Try.underlying4 _), (trodAll_cons_mk (shut_int Try.underlying35 w0) (trodAll_cons_mk (shut_int Try.underlying35 w1) (trodAll_cons_mk (shut_int Try.underlying35 w2) trodAll_mk0))), rfl, bel.frame _, fun h => by cases h⟩

theorem over : Rows.cubicBackRow.holds Try.pinned (OpenSpec.ofChange Rows.cubicBackSpec) :=
  OpenClaim.holds_of_wide 8 Try.f8 rfl rfl rfl rfl rfl rfl rfl ⟨rfl, rfl, rfl, rfl, rfl⟩ rfl rfl rfl rfl rfl (by kernel_rfl) Try.func8 (by kernel_rfl)
    (of_decide_eq_true (by kernel_rfl)) (by unfold Func.isWrapper; first | (rw [if_pos (by decide +kernel)]; kernel_rfl) | (rw [if_neg (by decide +kernel)]; exact ⟨rfl, rfl⟩))
    (fun os started H enc _ => lifted os started H enc)

/-- The given statement. -/
theorem proved : Rows.CubicBackSaid :=
  over
#print axioms proved
end Go.Proofs.Ytffdjgeonookpaa.cubicBack
