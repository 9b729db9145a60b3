/-
  The program tells what a probe timer is behind a probe, behind what was heard and behind what was sent as the document does. No conditions.
-/
import Derived.Test.YtehmeopbenmeiaaProbeRow
import Derived.Test.YtehmeopbenmeiaaRows
import Derived.Test.YtehmeopbenmeiaaRow
import Derived.WalkKit
import Derived.ProofKit
import Derived.OpenShut
import Derived.ShutString
import Derived.ChangeOld
import Derived.Below
import Derived.Test.YtehmeopbenmeiaaProbeAlive
import Derived.Test.YtehmeopbenmeiaaProbeRow
namespace Go.Proofs.Ytehmeopbenmeiaa.probeMoves
open Go.ChangeShapes Go.WideShapes Go.ChangeAt Go.RowKit
open Go.ChangeMaps (open_string shut_string)
open Go.Proofs.Ytehmeopbenmeiaa.Base Go.Proofs.Ytehmeopbenmeiaa.Probe Go.Proofs.Ytehmeopbenmeiaa.ProbePlain
set_option linter.unusedVariables false
set_option linter.unusedSimpArgs false

theorem own : ownKnob Try.prog.godebug = none := by kernel_rfl
theorem laidOut : laidOutB Try.prog = true := by kernel_rfl

open Go.Proofs.Ytehmeopbenmeiaa.Probe Go.Proofs.Ytehmeopbenmeiaa.ProbePlain Go.Proofs.Ytehmeopbenmeiaa.Hop
set_option maxHeartbeats 4000000 in
set_option maxRecDepth 20000 in
theorem walk (x0 : Pb) (a1 : Int) (w : World) (f0 : PFit x0) (w1 : (Lit.int .u64 a1).wf = true) :
    Calls Try.prog 4 #[.agg #[.int .i64 x0.count, .int .u64 x0.from_], .int .u64 a1] w fun e w' => e = .returned (.bool true) ∧ Below w.heap.size w w' := by
  obtain ⟨b0, b1⟩ := Base.u64_of w1
  have C1 := fun V => fired_any x0 f0 a1 b0 b1 V
  have C2 := fun V => ref_fired x0 f0 a1 b0 b1 V
  have C3 := fun V => calm_any x0 f0 a1 b0 b1 V
  have C4 := fun V => sent_any x0 f0 a1 b0 b1 V
  simp only [calmP, sentP] at C3 C4
  generalize firedP x0 a1 = q at *
  have CA := fun V => alive_probe V
  go_enter Try.func4, Try.ntmps4
  go_upto_region 1 with fail
  refine at_any ?_
  intro W0 hW
  obtain ⟨rB, hL⟩ : Blk W0 w.heap.size #[.int .i64 x0.count, .int .u64 x0.from_] 24 ∧ Below w.heap.size w W0 := by
    subst hW
    exact ⟨Blk.new _ _ _, (Below.refl _ _).alloc (Nat.le_refl _) _⟩
  clear hW
  go_upto_region 3 with (go_at_call 7; refine (CA W0).mono ?_; rintro e X ⟨rfl, L1⟩)
  have rX := rB.below L1 rB.lt
  have hM := Base.next hL L1
  have KB := fun V (hV : Below X.heap.size X V) => rX.below hV rX.lt
  have RR := fun V (hV : Below X.heap.size X V) => show V.rangeAt w.heap.size 0 [.int .i64 x0.count, .int .u64 x0.from_] from fun j v hj => by
    rw [(KB V hV).cell, Nat.zero_add]
    rcases j with _ | _ | j <;> first | exact hj | simp at hj
  have LS : Below X.heap.size X X.drew := Base.drew1 (Below.refl _ _)
  refine held_start (fun v => Below X.heap.size X v) (by kernel_rfl) ?_
  refine held_take (i := 0) (v := .agg #[.int .i64 x0.count, .int .u64 x0.from_]) rfl (by kernel_rfl) (by kernel_rfl) (by kernel_rfl) (fun _ _ _ h => h) (by kernel_rfl) LS (fun _ hu => by exact lb_mid 24 (.tmp 2) rfl (by kernel_rfl) (RR _ hu) Try.underlying24 rfl (by kernel_rfl)) ?_
  refine held_take (i := 1) (v := .int .u64 a1) rfl (by kernel_rfl) (by kernel_rfl) (by kernel_rfl) (fun _ _ _ h => h) (by kernel_rfl) LS (fun _ hu => by kernel_rfl) ?_
  refine held_take (i := 3) (v := .agg #[.int .i64 x0.count, .int .u64 x0.from_]) rfl (by kernel_rfl) (by kernel_rfl) (by kernel_rfl) (fun _ _ _ h => h) (by kernel_rfl) LS (fun _ hu => by exact lb_mid 24 (.tmp 2) rfl (by kernel_rfl) (RR _ hu) Try.underlying24 rfl (by kernel_rfl)) ?_
  refine held_take (i := 4) (v := .int .u64 a1) rfl (by kernel_rfl) (by kernel_rfl) (by kernel_rfl) (fun _ _ _ h => h) (by kernel_rfl) LS (fun _ hu => by kernel_rfl) ?_
  refine held_call (i := 2) (f := 10) (args := #[.agg #[.int .i64 x0.count, .int .u64 x0.from_], .int .u64 a1]) rfl (by kernel_rfl) (by kernel_rfl) (by kernel_rfl) ((C1 _).mono ?_)
  rintro e y1 ⟨rfl, LN⟩
  replace LS := LS.trans (LN.mono LS.size)
  refine ⟨_, rfl, LS, ?_⟩
  refine held_call (i := 5) (f := 11) (args := #[.agg #[.int .i64 x0.count, .int .u64 x0.from_], .int .u64 a1]) rfl (by kernel_rfl) (by kernel_rfl) (by kernel_rfl) ((C2 _).mono ?_)
  rintro e y2 ⟨rfl, LN⟩
  replace LS := LS.trans (LN.mono LS.size)
  refine ⟨_, rfl, LS, ?_⟩
  refine held_take (i := 6) (v := .bool true) rfl (by kernel_rfl) (by kernel_rfl) (by kernel_rfl) (fun _ _ _ h => h) (by kernel_rfl) LS (fun _ hu => by exact eq_pb (.tmp 9) (.tmp 12) (a := q.count) (b := q.from_) rfl (by kernel_rfl) (by kernel_rfl)) ?_
  refine held_take (i := 7) (v := .bool true) rfl (by kernel_rfl) (by kernel_rfl) (by kernel_rfl) (fun _ _ _ h => h) (by kernel_rfl) LS (fun _ hu => by kernel_rfl) ?_
  refine held_take (i := 8) (v := .agg #[.int .i64 x0.count, .int .u64 x0.from_]) rfl (by kernel_rfl) (by kernel_rfl) (by kernel_rfl) (fun _ _ _ h => h) (by kernel_rfl) LS (fun _ hu => by exact lb_mid 24 (.tmp 2) rfl (by kernel_rfl) (RR _ hu) Try.underlying24 rfl (by kernel_rfl)) ?_
  refine held_take (i := 9) (v := .int .u64 a1) rfl (by kernel_rfl) (by kernel_rfl) (by kernel_rfl) (fun _ _ _ h => h) (by kernel_rfl) LS (fun _ hu => by kernel_rfl) ?_
  refine held_take (i := 11) (v := .int .u64 a1) rfl (by kernel_rfl) (by kernel_rfl) (by kernel_rfl) (fun _ _ _ h => h) (by kernel_rfl) LS (fun _ hu => by kernel_rfl) ?_
  refine held_take (i := 12) (v := .agg #[.int .i64 0, .int .u64 a1]) rfl (by kernel_rfl) (by kernel_rfl) (by kernel_rfl) (fun _ _ _ h => h) (by kernel_rfl) LS (fun _ hu => by kernel_rfl) ?_
  refine held_call (i := 10) (f := 12) (args := #[.agg #[.int .i64 x0.count, .int .u64 x0.from_], .int .u64 a1]) rfl (by kernel_rfl) (by kernel_rfl) (by kernel_rfl) ((C3 _).mono ?_)
  rintro e y3 ⟨rfl, LN⟩
  replace LS := LS.trans (LN.mono LS.size)
  refine ⟨_, rfl, LS, ?_⟩
  refine held_take (i := 13) (v := .bool true) rfl (by kernel_rfl) (by kernel_rfl) (by kernel_rfl) (fun _ _ _ h => h) (by kernel_rfl) LS (fun _ hu => by exact eq_pb (.tmp 17) (.tmp 19) (a := 0) (b := a1) rfl (by kernel_rfl) (by kernel_rfl)) ?_
  refine held_take (i := 14) (v := .bool true) rfl (by kernel_rfl) (by kernel_rfl) (by kernel_rfl) (fun _ _ _ h => h) (by kernel_rfl) LS (fun _ hu => by kernel_rfl) ?_
  refine held_take (i := 15) (v := .bool true) rfl (by kernel_rfl) (by kernel_rfl) (by kernel_rfl) (fun _ _ _ h => h) (by kernel_rfl) LS (fun _ hu => by kernel_rfl) ?_
  refine held_take (i := 16) (v := .agg #[.int .i64 x0.count, .int .u64 x0.from_]) rfl (by kernel_rfl) (by kernel_rfl) (by kernel_rfl) (fun _ _ _ h => h) (by kernel_rfl) LS (fun _ hu => by exact lb_mid 24 (.tmp 2) rfl (by kernel_rfl) (RR _ hu) Try.underlying24 rfl (by kernel_rfl)) ?_
  refine held_take (i := 17) (v := .int .u64 a1) rfl (by kernel_rfl) (by kernel_rfl) (by kernel_rfl) (fun _ _ _ h => h) (by kernel_rfl) LS (fun _ hu => by kernel_rfl) ?_
  refine held_take (i := 19) (v := .pointer (some ⟨w.heap.size, 0, none⟩)) rfl (by kernel_rfl) (by kernel_rfl) (by kernel_rfl) (fun _ _ _ h => h) (by kernel_rfl) LS (fun _ hu => by kernel_rfl) ?_
  refine held_take (i := 20) (v := .int .i64 x0.count) rfl (by kernel_rfl) (by kernel_rfl) (by kernel_rfl) (fun _ _ _ h => h) (by kernel_rfl) LS (fun _ hu => by exact lb_any 3 (.tmp 26) rfl (by kernel_rfl) (by kernel_rfl) ((KB _ hu).cell 0)) ?_
  refine held_take (i := 21) (v := .int .u64 a1) rfl (by kernel_rfl) (by kernel_rfl) (by kernel_rfl) (fun _ _ _ h => h) (by kernel_rfl) LS (fun _ hu => by kernel_rfl) ?_
  refine held_take (i := 22) (v := .agg #[.int .i64 x0.count, .int .u64 a1]) rfl (by kernel_rfl) (by kernel_rfl) (by kernel_rfl) (fun _ _ _ h => h) (by kernel_rfl) LS (fun _ hu => by kernel_rfl) ?_
  refine held_call (i := 18) (f := 13) (args := #[.agg #[.int .i64 x0.count, .int .u64 x0.from_], .int .u64 a1]) rfl (by kernel_rfl) (by kernel_rfl) (by kernel_rfl) ((C4 _).mono ?_)
  rintro e y4 ⟨rfl, LN⟩
  replace LS := LS.trans (LN.mono LS.size)
  refine ⟨_, rfl, LS, ?_⟩
  refine held_take (i := 23) (v := .bool true) rfl (by kernel_rfl) (by kernel_rfl) (by kernel_rfl) (fun _ _ _ h => h) (by kernel_rfl) LS (fun _ hu => by exact eq_pb (.tmp 25) (.tmp 29) (a := x0.count) (b := a1) rfl (by kernel_rfl) (by kernel_rfl)) ?_
  refine held_take (i := 24) (v := .bool true) rfl (by kernel_rfl) (by kernel_rfl) (by kernel_rfl) (fun _ _ _ h => h) (by kernel_rfl) LS (fun _ hu => by kernel_rfl) ?_
  refine held_take (i := 25) (v := .bool true) rfl (by kernel_rfl) (by kernel_rfl) (by kernel_rfl) (fun _ _ _ h => h) (by kernel_rfl) LS (fun _ hu => by kernel_rfl) ?_
  refine held_end 4 (.bool true) (by kernel_rfl) (by kernel_rfl) (by kernel_rfl) fun a' hd hv => ?_
  go_wp2
  refine bodyPost_ret (results_tmp rfl _ _ _) hd ?_
  rw [hv]
  exact ⟨rfl, Base.next hM LS⟩

set_option maxRecDepth 100000 in
theorem lifted (os : Os) (started : os.Started) (H : Type) (enc : TypeId × Value → H) :
    ReturnsInHanded {} Try.checked os 4 .any (Rows.probeMovesSpec.pre6 enc Try.prog Try.f4 Rows.probeMovesRow.domain false) (Rows.probeMovesSpec.post enc Try.prog Try.f4 false true false false) := by
  refine returnsInHanded_of_change (C := Try.checked) own started (by kernel_rfl) Try.func4
    (ChangeSpec.witness6 (enc := enc) (C := Try.checked) false ⟨#[], #[.agg #[.int .i64 0, .int .u64 0], .int .u64 0], []⟩ 8 (by kernel_rfl) (by kernel_rfl) (by kernel_rfl) (by kernel_rfl)) ?_
  intro W base args ds gs before hval0 hW hcnd _
  have hval : ∀ (j : Nat) t v, Try.f4.params[j]? = some t → args[j]? = some v → Value.okWide Try.prog W .any base t v := hval0
  have hW' := hW
  obtain ⟨p, q, hA0, hV, rfl, hfz, hnd⟩ := hW
  have hA : DataW.TrodAll enc Try.prog W 0 (fun _ => true) true Try.f4.params.toList args.toList ds p := hA0
  rw [Try.params4] at hA hval
  obtain ⟨v0, vs0, d0, ds0, p0, q0, hargs, rfl, rfl, h0, r0⟩ := trodAll_cons hA
  obtain ⟨v1, vs1, d1, ds1, p1, q1, rfl, rfl, rfl, h1, r1⟩ := trodAll_cons r0
  obtain ⟨rfl, rfl, rfl⟩ := trodAll_nil r1
  obtain rfl : args = #[v0, v1] := by cases args; simp_all
  obtain ⟨rfl, rfl⟩ := trodVars_none hV
  have k0 := h0
  have lt0 : ∀ x ∈ p0, x.block < W.heap.size := by obtain ⟨m, hm⟩ := k0; exact DataW.trod_lt m _ _ _ hm
  obtain ⟨x0, rfl, f0⟩ := open_probe Try.underlying24 (by kernel_rfl) (by kernel_rfl) Try.underlying3 Try.underlying22 (hval 0 24 v0 rfl rfl) h0
  obtain ⟨a1, rfl, rfl, rfl, w1⟩ := open_int Try.underlying22 (hval 1 22 v1 rfl rfl) h1
  clear hA0 hval0
  refine (walk x0 a1 W f0 w1).mono fun e W' ⟨he, bel⟩ => ?_
  subst he
  exact ⟨_, rfl, _, _, _, [], _, [], hW', trodAll_mk1 (shut_bool Try.underlying4 _), (trodAll_cons_mk (Below.trod laidOut (by kernel_rfl) (of_decide_eq_true (by kernel_rfl)) k0 bel lt0) (trodAll_cons_mk (shut_int Try.underlying22 w1) trodAll_mk0)), rfl, bel.frame _, fun h => by cases h⟩

theorem over : Rows.probeMovesRow.holds Try.pinned (OpenSpec.ofChange Rows.probeMovesSpec) :=
  OpenClaim.holds_of_wide 4 Try.f4 rfl rfl rfl rfl rfl rfl rfl ⟨rfl, rfl, rfl, rfl, rfl⟩ rfl rfl rfl rfl rfl (by kernel_rfl) Try.func4 (by kernel_rfl)
    (of_decide_eq_true (by kernel_rfl)) (by unfold Func.isWrapper; first | (rw [if_pos (by decide +kernel)]; kernel_rfl) | (rw [if_neg (by decide +kernel)]; exact ⟨rfl, rfl⟩))
    (fun os started H enc _ => lifted os started H enc)

/-- The given statement. -/
theorem proved : Rows.ProbeMovesSaid :=
  over
#print axioms proved
end Go.Proofs.Ytehmeopbenmeiaa.probeMoves
