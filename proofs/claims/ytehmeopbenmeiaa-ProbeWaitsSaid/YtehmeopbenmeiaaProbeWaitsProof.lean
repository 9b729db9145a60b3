/-
  A probe is due no later than the most behind what it runs from, and no earlier than that. No conditions.
-/
import Derived.Test.YtehmeopbenmeiaaProbeRow
import Derived.Test.YtehmeopbenmeiaaRows
import Derived.Test.YtehmeopbenmeiaaRow
import Derived.WalkKit
import Derived.ProofKit
import Derived.OpenShut
import Derived.ShutString
import Derived.ChangeOld
import Derived.Below
import Derived.Test.YtehmeopbenmeiaaProbeAlive
import Derived.Test.YtehmeopbenmeiaaProbeRow
namespace Go.Proofs.Ytehmeopbenmeiaa.probeWaits
open Go.ChangeShapes Go.WideShapes Go.ChangeAt Go.RowKit
open Go.ChangeMaps (open_string shut_string)
open Go.Proofs.Ytehmeopbenmeiaa.Base Go.Proofs.Ytehmeopbenmeiaa.Probe Go.Proofs.Ytehmeopbenmeiaa.ProbePlain
set_option linter.unusedVariables false
set_option linter.unusedSimpArgs false

theorem own : ownKnob Try.prog.godebug = none := by kernel_rfl
theorem laidOut : laidOutB Try.prog = true := by kernel_rfl

open Go.Proofs.Ytehmeopbenmeiaa.Probe Go.Proofs.Ytehmeopbenmeiaa.ProbePlain Go.Proofs.Ytehmeopbenmeiaa.Hop
set_option maxHeartbeats 4000000 in
set_option maxRecDepth 20000 in
theorem walk (x0 : Pb) (a1 : Int) (a2 : Int) (w : World) (f0 : PFit x0) (w1 : (Lit.int .u64 a1).wf = true) (w2 : (Lit.int .u64 a2).wf = true) :
    Calls Try.prog 6 #[.agg #[.int .i64 x0.count, .int .u64 x0.from_], .int .u64 a1, .int .u64 a2] w fun e w' => e = .returned (.bool true) ∧ Below w.heap.size w w' := by
  obtain ⟨b0, b1⟩ := Base.u64_of w1
  obtain ⟨d0, d1⟩ := Base.u64_of w2
  have C1 := fun V => deadline_any x0 f0 true a1 a2 b0 b1 d0 d1 V
  have CA1 := fun V => Sat.ref_add x0.from_ a2 f0.f0 f0.f1 d0 d1 V
  have CA2 := fun V => Sat.ref_add x0.from_ a1 f0.f0 f0.f1 b0 b1 V
  have CA3 := fun V => Sat.ref_add x0.from_ (min a1 a2) f0.f0 f0.f1 (by omega) (by omega) V
  obtain ⟨h1, h2, h3⟩ := waits f0 b0 b1 d0 d1
  generalize deadlineP x0 true a1 a2 = q at *
  have h4 : a2 < a1 → Sat.add x0.from_ a2 ≤ q := fun h => by rwa [show min a1 a2 = a2 from by omega] at h3
  have h5 : a1 ≤ a2 → Sat.add x0.from_ a1 ≤ q := fun h => by rwa [show min a1 a2 = a1 from by omega] at h3
  have CA := fun V => alive_probe V
  go_enter Try.func6, Try.ntmps6
  go_upto_region 1 with fail
  refine at_any ?_
  intro W0 hW
  obtain ⟨rB, hL⟩ : Blk W0 w.heap.size #[.int .i64 x0.count, .int .u64 x0.from_] 24 ∧ Below w.heap.size w W0 := by
    subst hW
    exact ⟨Blk.new _ _ _, (Below.refl _ _).alloc (Nat.le_refl _) _⟩
  clear hW
  go_upto_region 3 with (go_at_call 7; refine (CA W0).mono ?_; rintro e X ⟨rfl, L1⟩)
  have rX := rB.below L1 rB.lt
  have hM := Base.next hL L1
  have KB := fun V (hV : Below X.heap.size X V) => rX.below hV rX.lt
  have k0 : X.cell? ⟨w.heap.size, 0, none⟩ = some (.int .i64 x0.count) := rX.cell 0
  have k1 : X.cell? ⟨w.heap.size, 1, none⟩ = some (.int .u64 x0.from_) := rX.cell 1
  have hlt := rX.lt
  go_wp2_with (first
    | (go_at_call 8; refine (C1 X).mono ?_; rintro e y1 ⟨rfl, L2⟩; have j1 := keepCell L2 k1; have s2 := L2.size)
    | (go_at_call 14; (with_reducible refine (CA1 _).mono ?_); rintro e y2 ⟨rfl, rfl⟩)
    | (go_at_call 14; (with_reducible refine (CA2 _).mono ?_); rintro e y3 ⟨rfl, rfl⟩)
    | (go_at_call 14; (with_reducible refine (CA3 _).mono ?_); rintro e y3 ⟨rfl, rfl⟩))
  all_goals first | go_ret | refine bodyPost_ret (results_tmp rfl _ _ _) rfl ?_
  all_goals exact ⟨rfl, Base.next hM L2⟩

set_option maxRecDepth 100000 in
theorem lifted (os : Os) (started : os.Started) (H : Type) (enc : TypeId × Value → H) :
    ReturnsInHanded {} Try.checked os 6 .any (Rows.probeWaitsSpec.pre6 enc Try.prog Try.f6 Rows.probeWaitsRow.domain false) (Rows.probeWaitsSpec.post enc Try.prog Try.f6 false true false false) := by
  refine returnsInHanded_of_change (C := Try.checked) own started (by kernel_rfl) Try.func6
    (ChangeSpec.witness6 (enc := enc) (C := Try.checked) false ⟨#[], #[.agg #[.int .i64 0, .int .u64 0], .int .u64 0, .int .u64 0], []⟩ 8 (by kernel_rfl) (by kernel_rfl) (by kernel_rfl) (by kernel_rfl)) ?_
  intro W base args ds gs before hval0 hW hcnd _
  have hval : ∀ (j : Nat) t v, Try.f6.params[j]? = some t → args[j]? = some v → Value.okWide Try.prog W .any base t v := hval0
  have hW' := hW
  obtain ⟨p, q, hA0, hV, rfl, hfz, hnd⟩ := hW
  have hA : DataW.TrodAll enc Try.prog W 0 (fun _ => true) true Try.f6.params.toList args.toList ds p := hA0
  rw [Try.params6] at hA hval
  obtain ⟨v0, vs0, d0, ds0, p0, q0, hargs, rfl, rfl, h0, r0⟩ := trodAll_cons hA
  obtain ⟨v1, vs1, d1, ds1, p1, q1, rfl, rfl, rfl, h1, r1⟩ := trodAll_cons r0
  obtain ⟨v2, vs2, d2, ds2, p2, q2, rfl, rfl, rfl, h2, r2⟩ := trodAll_cons r1
  obtain ⟨rfl, rfl, rfl⟩ := trodAll_nil r2
  obtain rfl : args = #[v0, v1, v2] := by cases args; simp_all
  obtain ⟨rfl, rfl⟩ := trodVars_none hV
  have k0 := h0
  have lt0 : ∀ x ∈ p0, x.block < W.heap.size := by obtain ⟨m, hm⟩ := k0; exact DataW.trod_lt m _ _ _ hm
  obtain ⟨x0, rfl, f0⟩ := open_probe Try.underlying24 (by kernel_rfl) (by kernel_rfl) Try.underlying3 Try.underlying22 (hval 0 24 v0 rfl rfl) h0
  obtain ⟨a1, rfl, rfl, rfl, w1⟩ := open_int Try.underlying22 (hval 1 22 v1 rfl rfl) h1
  obtain ⟨a2, rfl, rfl, rfl, w2⟩ := open_int Try.underlying22 (hval 2 22 v2 rfl rfl) h2
  clear hA0 hval0
  refine (walk x0 a1 a2 W f0 w1 w2).mono fun e W' ⟨he, bel⟩ => ?_
  subst he
  exact ⟨_, rfl, _, _, _, [], _, [], hW', trodAll_mk1 (shut_bool Try.underlying4 _), (trodAll_cons_mk (Below.trod laidOut (by kernel_rfl) (of_decide_eq_true (by kernel_rfl)) k0 bel lt0) (trodAll_cons_mk (shut_int Try.underlying22 w1) (trodAll_cons_mk (shut_int Try.underlying22 w2) trodAll_mk0))), rfl, bel.frame _, fun h => by cases h⟩

theorem over : Rows.probeWaitsRow.holds Try.pinned (OpenSpec.ofChange Rows.probeWaitsSpec) :=
  OpenClaim.holds_of_wide 6 Try.f6 rfl rfl rfl rfl rfl rfl rfl ⟨rfl, rfl, rfl, rfl, rfl⟩ rfl rfl rfl rfl rfl (by kernel_rfl) Try.func6 (by kernel_rfl)
    (of_decide_eq_true (by kernel_rfl)) (by unfold Func.isWrapper; first | (rw [if_pos (by decide +kernel)]; kernel_rfl) | (rw [if_neg (by decide +kernel)]; exact ⟨rfl, rfl⟩))
    (fun os started H enc _ => lifted os started H enc)

/-- The given statement. -/
theorem proved : Rows.ProbeWaitsSaid :=
  over
#print axioms proved
end Go.Proofs.Ytehmeopbenmeiaa.probeWaits
