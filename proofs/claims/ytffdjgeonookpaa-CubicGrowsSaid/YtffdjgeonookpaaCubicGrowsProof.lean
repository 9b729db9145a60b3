/-
  Of any window the program makes behind any acknowledged bytes, at any time, what the document says. No conditions.
-/
import Derived.Test.YtffdjgeonookpaaFlat
import Derived.Test.YtffdjgeonookpaaRows
import Derived.Test.YtffdjgeonookpaaRow
import Derived.WalkKit
import Derived.ProofKit
import Derived.OpenShut
import Derived.ShutString
import Derived.ChangeOld
import Derived.Below
import Derived.Test.YtffdjgeonookpaaCubicAlive
namespace Go.Proofs.Ytffdjgeonookpaa.cubicGrows
open Go.ChangeShapes Go.WideShapes Go.ChangeAt Go.RowKit
open Go.ChangeMaps (open_string shut_string)
open Go.Proofs.Ytffdjgeonookpaa.Base
set_option linter.unusedVariables false
set_option linter.unusedSimpArgs false

theorem own : ownKnob Try.prog.godebug = none := by kernel_rfl
theorem laidOut : laidOutB Try.prog = true := by kernel_rfl

open Go.Proofs.Ytffdjgeonookpaa.Cubic Go.Proofs.Ytffdjgeonookpaa.CubicPlain Go.Proofs.Ytffdjgeonookpaa.Reno Go.Proofs.Ytffdjgeonookpaa.RenoPlain Go.Proofs.Ytffdjgeonookpaa.Hop
set_option maxHeartbeats 4000000 in
set_option maxRecDepth 20000 in
theorem walk (c0_0 : Int) (c0_1 : Int) (c0_2 : Int) (c0_3 : Int) (c0_4 : Int) (c0_5 : Int) (c0_6 : Int) (a1 : Int) (a2 : Int) (a3 : Int) (a4 : Int) (w : World) (w0_0 : (Lit.int .u64 c0_0).wf = true) (w0_1 : (Lit.int .u64 c0_1).wf = true) (w0_2 : (Lit.int .u64 c0_2).wf = true) (w0_3 : (Lit.int .u64 c0_3).wf = true) (w0_4 : (Lit.int .u64 c0_4).wf = true) (w0_5 : (Lit.int .u64 c0_5).wf = true) (w0_6 : (Lit.int .u64 c0_6).wf = true) (w1 : (Lit.int .u64 a1).wf = true) (w2 : (Lit.int .u64 a2).wf = true) (w3 : (Lit.int .u64 a3).wf = true) (w4 : (Lit.int .u64 a4).wf = true) :
    Calls Try.prog 5 #[.agg #[.int .u64 c0_0, .int .u64 c0_1, .int .u64 c0_2, .int .u64 c0_3, .int .u64 c0_4, .int .u64 c0_5, .int .u64 c0_6], .int .u64 a1, .int .u64 a2, .int .u64 a3, .int .u64 a4] w fun e w' => e = .returned (.bool true) ∧ Below w.heap.size w w' := by
  have hx : WFit ⟨c0_0, c0_1, c0_2, c0_3, c0_4, c0_5, c0_6⟩ := ⟨Base.u64_of w0_0, Base.u64_of w0_1, Base.u64_of w0_2, Base.u64_of w0_3, Base.u64_of w0_4, Base.u64_of w0_5, Base.u64_of w0_6⟩
  have ha : U a1 := Base.u64_of w1
  have hm : U a2 := Base.u64_of w2
  have hn : U a3 := Base.u64_of w3
  have hs : U a4 := Base.u64_of w4
  have C1 := fun V => grow_any ⟨c0_0, c0_1, c0_2, c0_3, c0_4, c0_5, c0_6⟩ hx a1 a2 a3 a4 ha hm hn hs V
  have C2 := fun V => ref_growc ⟨c0_0, c0_1, c0_2, c0_3, c0_4, c0_5, c0_6⟩ hx a1 a2 a3 a4 ha hm hn hs V
  generalize growC ⟨c0_0, c0_1, c0_2, c0_3, c0_4, c0_5, c0_6⟩ a1 a2 a3 a4 = q at *
  obtain ⟨q0, q1, q2, q3, q4, q5, q6⟩ := q
  unfold WinPost wc at C1 C2
  simp only at C1 C2
  have CA := fun V => alive_cubic V
  go_enter Try.func5, Try.ntmps5
  go_upto_region 1 with fail
  refine at_any ?_
  intro W0 hW
  obtain ⟨rB, hL⟩ : Blk W0 w.heap.size #[.int .u64 c0_0, .int .u64 c0_1, .int .u64 c0_2, .int .u64 c0_3, .int .u64 c0_4, .int .u64 c0_5, .int .u64 c0_6] 29 ∧ Below w.heap.size w W0 := by
    subst hW
    exact ⟨Blk.new _ _ _, (Below.refl _ _).alloc (Nat.le_refl _) _⟩
  clear hW
  go_upto_region 3 with (go_at_call 11; refine (CA W0).mono ?_; rintro e X ⟨rfl, L1⟩)
  have rX := rB.below L1 rB.lt
  have hM := Base.next hL L1
  clear rB hL L1 CA
  have hlt := rX.lt
  obtain ⟨k0, k1, k2, k3, k4, k5, k6⟩ := blk7 rX
  have f0 := fun p : In (Lt X) => inCell p k0
  have f1 := fun p : In (Lt X) => inCell p k1
  have f2 := fun p : In (Lt X) => inCell p k2
  have f3 := fun p : In (Lt X) => inCell p k3
  have f4 := fun p : In (Lt X) => inCell p k4
  have f5 := fun p : In (Lt X) => inCell p k5
  have f6 := fun p : In (Lt X) => inCell p k6
  clear k0 k1 k2 k3 k4 k5 k6
  refine wp_region_in (Lt X) (Lt.drew X) (by kernel_rfl) (by kernel_rfl) ?_
  repeat (go_big_quiet_step (first | (go_at_call 16; refine in_below (v := .agg #[.int .u64 q0, .int .u64 q1, .int .u64 q2, .int .u64 q3, .int .u64 q4, .int .u64 q5, .int .u64 q6]) ?_; exact C1 _) | (go_at_call 17; refine in_below (v := .agg #[.int .u64 q0, .int .u64 q1, .int .u64 q2, .int .u64 q3, .int .u64 q4, .int .u64 q5, .int .u64 q6]) ?_; exact C2 _)))
  refine wpQuiet_nil ?_
  rintro u2 ⟨⟨_, hw2⟩, rfl⟩
  have hw2 : Below X.heap.size X u2 := hw2
  go_wp2
  go_ret
  exact ⟨rfl, Base.next hM hw2⟩

set_option maxRecDepth 100000 in
theorem lifted (os : Os) (started : os.Started) (H : Type) (enc : TypeId × Value → H) :
    ReturnsInHanded {} Try.checked os 5 .any (Rows.cubicGrowsSpec.pre6 enc Try.prog Try.f5 Rows.cubicGrowsRow.domain false) (Rows.cubicGrowsSpec.post enc Try.prog Try.f5 false true false false) := by
  refine returnsInHanded_of_change (C := Try.checked) own started (by kernel_rfl) Try.func5
    (ChangeSpec.witness6 (enc := enc) (C := Try.checked) false ⟨#[], #[.agg #[.int .u64 0, .int .u64 0, .int .u64 0, .int .u64 0, .int .u64 0, .int .u64 0, .int .u64 0], .int .u64 0, .int .u64 0, .int .u64 0, .int .u64 0], []⟩ 8 (by kernel_rfl) (by kernel_rfl) (by kernel_rfl) (by kernel_rfl)) ?_
  intro W base args ds gs before hval0 hW hcnd _
  have hval : ∀ (j : Nat) t v, Try.f5.params[j]? = some t → args[j]? = some v → Value.okWide Try.prog W .any base t v := hval0
  have hW' := hW
  obtain ⟨p, q, hA0, hV, rfl, hfz, hnd⟩ := hW
  have hA : DataW.TrodAll enc Try.prog W 0 (fun _ => true) true Try.f5.params.toList args.toList ds p := hA0
  rw [Try.params5] at hA hval
  obtain ⟨v0, vs0, d0, ds0, p0, q0, hargs, rfl, rfl, h0, r0⟩ := trodAll_cons hA
  obtain ⟨v1, vs1, d1, ds1, p1, q1, rfl, rfl, rfl, h1, r1⟩ := trodAll_cons r0
  obtain ⟨v2, vs2, d2, ds2, p2, q2, rfl, rfl, rfl, h2, r2⟩ := trodAll_cons r1
  obtain ⟨v3, vs3, d3, ds3, p3, q3, rfl, rfl, rfl, h3, r3⟩ := trodAll_cons r2
  obtain ⟨v4, vs4, d4, ds4, p4, q4, rfl, rfl, rfl, h4, r4⟩ := trodAll_cons r3
  obtain ⟨rfl, rfl, rfl⟩ := trodAll_nil r4
  obtain rfl : args = #[v0, v1, v2, v3, v4] := by cases args; simp_all
  obtain ⟨rfl, rfl⟩ := trodVars_none hV
  have k0 := h0
  have lt0 : ∀ x ∈ p0, x.block < W.heap.size := by obtain ⟨m, hm⟩ := k0; exact DataW.trod_lt m _ _ _ hm
  obtain ⟨cs0, rfl, fl0⟩ := open_flat Try.underlying29 (show leaf Try.prog 6 29 = some [.int .u64, .int .u64, .int .u64, .int .u64, .int .u64, .int .u64, .int .u64] by kernel_rfl) (hval 0 29 v0 rfl rfl) h0
  obtain ⟨c0_0, us0, rfl, w0_0, fl0⟩ := fl0.int_
  obtain ⟨c0_1, us0, rfl, w0_1, fl0⟩ := fl0.int_
  obtain ⟨c0_2, us0, rfl, w0_2, fl0⟩ := fl0.int_
  obtain ⟨c0_3, us0, rfl, w0_3, fl0⟩ := fl0.int_
  obtain ⟨c0_4, us0, rfl, w0_4, fl0⟩ := fl0.int_
  obtain ⟨c0_5, us0, rfl, w0_5, fl0⟩ := fl0.int_
  obtain ⟨c0_6, us0, rfl, w0_6, fl0⟩ := fl0.int_
  obtain rfl := fl0.nil_
  obtain ⟨a1, rfl, rfl, rfl, w1⟩ := open_int Try.underlying22 (hval 1 22 v1 rfl rfl) h1
  obtain ⟨a2, rfl, rfl, rfl, w2⟩ := open_int Try.underlying22 (hval 2 22 v2 rfl rfl) h2
  obtain ⟨a3, rfl, rfl, rfl, w3⟩ := open_int Try.underlying22 (hval 3 22 v3 rfl rfl) h3
  obtain ⟨a4, rfl, rfl, rfl, w4⟩ := open_int Try.underlying22 (hval 4 22 v4 rfl rfl) h4
  clear hA0 hval0
  refine (walk c0_0 c0_1 c0_2 c0_3 c0_4 c0_5 c0_6 a1 a2 a3 a4 W w0_0 w0_1 w0_2 w0_3 w0_4 w0_5 w0_6 w1 w2 w3 w4).mono fun e W' ⟨he, bel⟩ => ?_
  subst he
  exact ⟨_, rfl, _, _, _, [], _, [], hW', trodAll_mk1 (shut_bool Try.underlying4 _), (trodAll_cons_mk (Below.trod laidOut (by kernel_rfl) (of_decide_eq_true (by kernel_rfl)) k0 bel lt0) (trodAll_cons_mk (shut_int Try.underlying22 w1) (trodAll_cons_mk (shut_int Try.underlying22 w2) (trodAll_cons_mk (shut_int Try.underlying22 w3) (trodAll_cons_mk (shut_int Try.underlying22 w4) trodAll_mk0))))), rfl, bel.frame _, fun h => by cases h⟩

theorem over : Rows.cubicGrowsRow.holds Try.pinned (OpenSpec.ofChange Rows.cubicGrowsSpec) :=
  OpenClaim.holds_of_wide 5 Try.f5 rfl rfl rfl rfl rfl rfl rfl ⟨rfl, rfl, rfl, rfl, rfl⟩ rfl rfl rfl rfl rfl (by kernel_rfl) Try.func5 (by kernel_rfl)
    (of_decide_eq_true (by kernel_rfl)) (by unfold Func.isWrapper; first | (rw [if_pos (by decide +kernel)]; kernel_rfl) | (rw [if_neg (by decide +kernel)]; exact ⟨rfl, rfl⟩))
    (fun os started H enc _ => lifted os started H enc)

/-- The given statement. -/
theorem proved : Rows.CubicGrowsSaid :=
  over
#print axioms proved
end Go.Proofs.Ytffdjgeonookpaa.cubicGrows
