/-
  What a window would be rises with the time; it is the peak at its time, no more ahead of it and no less behind it. No conditions.
-/
import Derived.Test.YtffdjgeonookpaaRows
import Derived.Test.YtffdjgeonookpaaRow
import Derived.WalkKit
import Derived.ProofKit
import Derived.OpenShut
import Derived.ShutString
import Derived.ChangeOld
import Derived.Below
import Derived.Test.YtffdjgeonookpaaCubicAlive
namespace Go.Proofs.Ytffdjgeonookpaa.cubicRises
open Go.ChangeShapes Go.WideShapes Go.ChangeAt Go.RowKit
open Go.ChangeMaps (open_string shut_string)
open Go.Proofs.Ytffdjgeonookpaa.Base
set_option linter.unusedVariables false
set_option linter.unusedSimpArgs false

theorem own : ownKnob Try.prog.godebug = none := by kernel_rfl
theorem laidOut : laidOutB Try.prog = true := by kernel_rfl

open Go.Proofs.Ytffdjgeonookpaa.Cubic Go.Proofs.Ytffdjgeonookpaa.CubicPlain Go.Proofs.Ytffdjgeonookpaa.Reno Go.Proofs.Ytffdjgeonookpaa.RenoPlain Go.Proofs.Ytffdjgeonookpaa.Hop
set_option maxHeartbeats 4000000 in
set_option maxRecDepth 20000 in
theorem walk (a0 : Int) (a1 : Int) (a2 : Int) (a3 : Int) (a4 : Int) (w : World) (w0 : (Lit.int .u64 a0).wf = true) (w1 : (Lit.int .u64 a1).wf = true) (w2 : (Lit.int .u64 a2).wf = true) (w3 : (Lit.int .u64 a3).wf = true) (w4 : (Lit.int .u64 a4).wf = true) :
    Calls Try.prog 7 #[.int .u64 a0, .int .u64 a1, .int .u64 a2, .int .u64 a3, .int .u64 a4] w fun e w' => e = .returned (.bool true) ∧ Below w.heap.size w w' := by
  have hp : U a0 := Base.u64_of w0
  have hk : U a1 := Base.u64_of w1
  have ht : U a2 := Base.u64_of w2
  have hu : U a3 := Base.u64_of w3
  have hm : U a4 := Base.u64_of w4
  have CA := fun V => alive_cubic V
  by_cases htu : a3 < a2
  · go_enter Try.func7, Try.ntmps7
    go_wp2_with (first
      | (go_at_call 11; (with_reducible refine (CA w).mono ?_); rintro e u1 ⟨rfl, L1⟩)
      | (go_at_call 11; (with_reducible refine (CA u1).mono ?_); rintro e u2 ⟨rfl, L2⟩))
    all_goals go_ret
    all_goals exact ⟨rfl, Base.next L1 L2⟩
  · have C1 := fun V => atC_any a0 a1 a2 a4 hp hk ht hm V
    have C2 := fun V => atC_any a0 a1 a3 a4 hp hk hu hm V
    have C3 := fun V => atC_any a0 a1 a1 a4 hp hk hk hm V
    have h1 := at_rises hp hk ht hu hm (show a2 ≤ a3 by omega)
    have h2 := at_peak (k := a1) (mss := a4) hp
    have h3 := fun h => at_lo hp (show a3 ≤ a1 from h) hk hu hm
    have h4 := fun h => at_hi hp (show a1 ≤ a2 from h) hk ht hm
    rw [h2] at C3
    generalize atC a0 a1 a2 a4 = x at *
    generalize atC a0 a1 a3 a4 = y at *
    have b1 : decide (x ≤ y) = true := by simpa using h1
    clear h2
    by_cases h5 : a3 ≤ a1
    · have h6 := h3 h5
      by_cases h7 : a1 ≤ a2
      · have h8 := h4 h7
        go_enter Try.func7, Try.ntmps7
        go_wp2_with (first
          | (go_at_call 11; refine (CA w).mono ?_; rintro e u1 ⟨rfl, L1⟩)
          | (go_at_call 14; (with_reducible refine (C1 u1).mono ?_); rintro e u2 ⟨rfl, L2⟩; have M2 := Base.next L1 L2)
          | (go_at_call 14; (with_reducible refine (C2 u2).mono ?_); rintro e u3 ⟨rfl, L3⟩; have M3 := Base.next M2 L3)
          | (go_at_call 14; (with_reducible refine (C3 u3).mono ?_); rintro e u4 ⟨rfl, L4⟩; have M4 := Base.next M3 L4))
        all_goals go_ret
        all_goals exact ⟨rfl, M4⟩
      · go_enter Try.func7, Try.ntmps7
        go_wp2_with (first
          | (go_at_call 11; refine (CA w).mono ?_; rintro e u1 ⟨rfl, L1⟩)
          | (go_at_call 14; (with_reducible refine (C1 u1).mono ?_); rintro e u2 ⟨rfl, L2⟩; have M2 := Base.next L1 L2)
          | (go_at_call 14; (with_reducible refine (C2 u2).mono ?_); rintro e u3 ⟨rfl, L3⟩; have M3 := Base.next M2 L3)
          | (go_at_call 14; (with_reducible refine (C3 u3).mono ?_); rintro e u4 ⟨rfl, L4⟩; have M4 := Base.next M3 L4))
        all_goals go_ret
        all_goals exact ⟨rfl, M4⟩
    · by_cases h7 : a1 ≤ a2
      · have h8 := h4 h7
        go_enter Try.func7, Try.ntmps7
        go_wp2_with (first
          | (go_at_call 11; refine (CA w).mono ?_; rintro e u1 ⟨rfl, L1⟩)
          | (go_at_call 14; (with_reducible refine (C1 u1).mono ?_); rintro e u2 ⟨rfl, L2⟩; have M2 := Base.next L1 L2)
          | (go_at_call 14; (with_reducible refine (C2 u2).mono ?_); rintro e u3 ⟨rfl, L3⟩; have M3 := Base.next M2 L3)
          | (go_at_call 14; (with_reducible refine (C3 u3).mono ?_); rintro e u4 ⟨rfl, L4⟩; have M4 := Base.next M3 L4))
        all_goals go_ret
        all_goals exact ⟨rfl, M4⟩
      · go_enter Try.func7, Try.ntmps7
        go_wp2_with (first
          | (go_at_call 11; refine (CA w).mono ?_; rintro e u1 ⟨rfl, L1⟩)
          | (go_at_call 14; (with_reducible refine (C1 u1).mono ?_); rintro e u2 ⟨rfl, L2⟩; have M2 := Base.next L1 L2)
          | (go_at_call 14; (with_reducible refine (C2 u2).mono ?_); rintro e u3 ⟨rfl, L3⟩; have M3 := Base.next M2 L3)
          | (go_at_call 14; (with_reducible refine (C3 u3).mono ?_); rintro e u4 ⟨rfl, L4⟩; have M4 := Base.next M3 L4))
        all_goals go_ret
        all_goals exact ⟨rfl, M4⟩

set_option maxRecDepth 100000 in
theorem lifted (os : Os) (started : os.Started) (H : Type) (enc : TypeId × Value → H) :
    ReturnsInHanded {} Try.checked os 7 .any (Rows.cubicRisesSpec.pre6 enc Try.prog Try.f7 Rows.cubicRisesRow.domain false) (Rows.cubicRisesSpec.post enc Try.prog Try.f7 false true false false) := by
  refine returnsInHanded_of_change (C := Try.checked) own started (by kernel_rfl) Try.func7
    (ChangeSpec.witness6 (enc := enc) (C := Try.checked) false ⟨#[], #[.int .u64 0, .int .u64 0, .int .u64 0, .int .u64 0, .int .u64 0], []⟩ 8 (by kernel_rfl) (by kernel_rfl) (by kernel_rfl) (by kernel_rfl)) ?_
  intro W base args ds gs before hval0 hW hcnd _
  have hval : ∀ (j : Nat) t v, Try.f7.params[j]? = some t → args[j]? = some v → Value.okWide Try.prog W .any base t v := hval0
  have hW' := hW
  obtain ⟨p, q, hA0, hV, rfl, hfz, hnd⟩ := hW
  have hA : DataW.TrodAll enc Try.prog W 0 (fun _ => true) true Try.f7.params.toList args.toList ds p := hA0
  rw [Try.params7] at hA hval
  obtain ⟨v0, vs0, d0, ds0, p0, q0, hargs, rfl, rfl, h0, r0⟩ := trodAll_cons hA
  obtain ⟨v1, vs1, d1, ds1, p1, q1, rfl, rfl, rfl, h1, r1⟩ := trodAll_cons r0
  obtain ⟨v2, vs2, d2, ds2, p2, q2, rfl, rfl, rfl, h2, r2⟩ := trodAll_cons r1
  obtain ⟨v3, vs3, d3, ds3, p3, q3, rfl, rfl, rfl, h3, r3⟩ := trodAll_cons r2
  obtain ⟨v4, vs4, d4, ds4, p4, q4, rfl, rfl, rfl, h4, r4⟩ := trodAll_cons r3
  obtain ⟨rfl, rfl, rfl⟩ := trodAll_nil r4
  obtain rfl : args = #[v0, v1, v2, v3, v4] := by cases args; simp_all
  obtain ⟨rfl, rfl⟩ := trodVars_none hV
  obtain ⟨a0, rfl, rfl, rfl, w0⟩ := open_int Try.underlying22 (hval 0 22 v0 rfl rfl) h0
  obtain ⟨a1, rfl, rfl, rfl, w1⟩ := open_int Try.underlying22 (hval 1 22 v1 rfl rfl) h1
  obtain ⟨a2, rfl, rfl, rfl, w2⟩ := open_int Try.underlying22 (hval 2 22 v2 rfl rfl) h2
  obtain ⟨a3, rfl, rfl, rfl, w3⟩ := open_int Try.underlying22 (hval 3 22 v3 rfl rfl) h3
  obtain ⟨a4, rfl, rfl, rfl, w4⟩ := open_int Try.underlying22 (hval 4 22 v4 rfl rfl) h4
  clear hA0 hval0
  refine (walk a0 a1 a2 a3 a4 W w0 w1 w2 w3 w4).mono fun e W' ⟨he, bel⟩ => ?_
  subst he
  exact ⟨_, rfl, _, _, _, [], _, [], hW', trodAll_mk1 (shut_bool Try.underlying4 _), (trodAll_cons_mk (shut_int Try.underlying22 w0) (trodAll_cons_mk (shut_int Try.underlying22 w1) (trodAll_cons_mk (shut_int Try.underlying22 w2) (trodAll_cons_mk (shut_int Try.underlying22 w3) (trodAll_cons_mk (shut_int Try.underlying22 w4) trodAll_mk0))))), rfl, bel.frame _, fun h => by cases h⟩

theorem over : Rows.cubicRisesRow.holds Try.pinned (OpenSpec.ofChange Rows.cubicRisesSpec) :=
  OpenClaim.holds_of_wide 7 Try.f7 rfl rfl rfl rfl rfl rfl rfl ⟨rfl, rfl, rfl, rfl, rfl⟩ rfl rfl rfl rfl rfl (by kernel_rfl) Try.func7 (by kernel_rfl)
    (of_decide_eq_true (by kernel_rfl)) (by unfold Func.isWrapper; first | (rw [if_pos (by decide +kernel)]; kernel_rfl) | (rw [if_neg (by decide +kernel)]; exact ⟨rfl, rfl⟩))
    (fun os started H enc _ => lifted os started H enc)

/-- The given statement. -/
theorem proved : Rows.CubicRisesSaid :=
  over
#print axioms proved
end Go.Proofs.Ytffdjgeonookpaa.cubicRises
