/-
  Below the threshold a window grows by what was acknowledged, two packets at most. No conditions.
-/
import Derived.Test.YtnnceeefilpgeaaFlat
import Derived.Test.YtnnceeefilpgeaaRows
import Derived.Test.YtnnceeefilpgeaaRow
import Derived.WalkKit
import Derived.ProofKit
import Derived.OpenShut
import Derived.ShutString
import Derived.ChangeOld
import Derived.Below
import Derived.Test.YtnnceeefilpgeaaRenoAlive
namespace Go.Proofs.Ytnnceeefilpgeaa.renoSlows
open Go.ChangeShapes Go.WideShapes Go.ChangeAt Go.RowKit
open Go.ChangeMaps (open_string shut_string)
open Go.Proofs.Ytnnceeefilpgeaa.Base
set_option linter.unusedVariables false
set_option linter.unusedSimpArgs false

theorem own : ownKnob Try.prog.godebug = none := by kernel_rfl
theorem laidOut : laidOutB Try.prog = true := by kernel_rfl

open Go.Proofs.Ytnnceeefilpgeaa.Reno Go.Proofs.Ytnnceeefilpgeaa.RenoPlain Go.Proofs.Ytnnceeefilpgeaa.Hop
set_option maxHeartbeats 4000000 in
set_option maxRecDepth 20000 in
theorem walk (c0_0 : Int) (c0_1 : Int) (c0_2 : Int) (c0_3 : Int) (c0_4 : Int) (c0_5 : Int) (c0_6 : Int) (a1 : Int) (a2 : Int) (w : World) (w0_0 : (Lit.int .u64 c0_0).wf = true) (w0_1 : (Lit.int .u64 c0_1).wf = true) (w0_2 : (Lit.int .u64 c0_2).wf = true) (w0_3 : (Lit.int .u64 c0_3).wf = true) (w0_4 : (Lit.int .u64 c0_4).wf = true) (w0_5 : (Lit.int .u64 c0_5).wf = true) (w0_6 : (Lit.int .u64 c0_6).wf = true) (w1 : (Lit.int .u64 a1).wf = true) (w2 : (Lit.int .u64 a2).wf = true) :
    Calls Try.prog 8 #[.agg #[.int .u64 c0_0, .int .u64 c0_1, .int .u64 c0_2, .int .u64 c0_3, .int .u64 c0_4, .int .u64 c0_5, .int .u64 c0_6], .int .u64 a1, .int .u64 a2] w fun e w' => e = .returned (.bool true) ∧ Below w.heap.size w w' := by
  have hx : WFit ⟨c0_0, c0_1, c0_2, c0_3, c0_4, c0_5, c0_6⟩ := ⟨Base.u64_of w0_0, Base.u64_of w0_1, Base.u64_of w0_2, Base.u64_of w0_3, Base.u64_of w0_4, Base.u64_of w0_5, Base.u64_of w0_6⟩
  have ha : U a1 := Base.u64_of w1
  have hm : U a2 := Base.u64_of w2
  by_cases hc : c0_1 ≤ c0_0
  · have CA := fun V => alive_reno V
    go_enter Try.func8, Try.ntmps8
    go_upto_region 1 with fail
    refine at_any ?_
    intro W0 hW
    obtain ⟨rB, hL⟩ : Blk W0 w.heap.size #[.int .u64 c0_0, .int .u64 c0_1, .int .u64 c0_2, .int .u64 c0_3, .int .u64 c0_4, .int .u64 c0_5, .int .u64 c0_6] 24 ∧ Below w.heap.size w W0 := by
      subst hW
      exact ⟨Blk.new _ _ _, (Below.refl _ _).alloc (Nat.le_refl _) _⟩
    clear hW
    go_wp2_with (first
      | (go_at_call 9; (with_reducible refine (CA W0).mono ?_); rintro e X ⟨rfl, L1⟩; have rX := rB.below L1 rB.lt; have k0 : X.cell? ⟨w.heap.size, 0, none⟩ = some (.int .u64 c0_0) := rX.cell 0; have k1 : X.cell? ⟨w.heap.size, 1, none⟩ = some (.int .u64 c0_1) := rX.cell 1; have hlt := rX.lt)
      | (go_at_call 9; (with_reducible refine (CA X).mono ?_); rintro e X2 ⟨rfl, L2⟩))
    all_goals go_ret
    all_goals exact ⟨rfl, Base.next (Base.next hL L1) L2⟩
  · have C1 := fun V => grow_any ⟨c0_0, c0_1, c0_2, c0_3, c0_4, c0_5, c0_6⟩ hx a1 a2 ha hm V
    have hg : growR ⟨c0_0, c0_1, c0_2, c0_3, c0_4, c0_5, c0_6⟩ a1 a2 = slowW ⟨c0_0, c0_1, c0_2, c0_3, c0_4, c0_5, c0_6⟩ a1 a2 := by unfold growR; rw [if_pos (by show c0_0 < c0_1; omega)]
    rw [hg] at C1
    unfold slowW WinPost wc at C1
    simp only at C1
    have CM := fun V => Sat.ref_mul a2 2 hm.1 hm.2 (by decide) (by decide) V
    have hmm := mul_bd (show (0 : Int) ≤ 2 by decide) hm.1
    rw [show Sat.mul a2 2 = Sat.mul 2 a2 by unfold Sat.mul; rw [Int.mul_comm]] at CM
    generalize Sat.mul 2 a2 = mm at *
    have hC : U c0_0 := Base.u64_of w0_0
    have CS := fun V => Sat.ref_add c0_0 (min a1 mm) hC.1 hC.2 (by unfold U at *; omega) (by unfold U at *; omega) V
    generalize Sat.add c0_0 (min a1 mm) = c' at *
    have emin : (if mm < a1 then mm else a1) = min a1 mm := by split <;> omega
    have CA := fun V => alive_reno V
    go_enter Try.func8, Try.ntmps8
    go_upto_region 1 with fail
    refine at_any ?_
    intro W0 hW
    obtain ⟨rB, hL⟩ : Blk W0 w.heap.size #[.int .u64 c0_0, .int .u64 c0_1, .int .u64 c0_2, .int .u64 c0_3, .int .u64 c0_4, .int .u64 c0_5, .int .u64 c0_6] 24 ∧ Below w.heap.size w W0 := by
      subst hW
      exact ⟨Blk.new _ _ _, (Below.refl _ _).alloc (Nat.le_refl _) _⟩
    clear hW
    go_upto_region 3 with (go_at_call 9; refine (CA W0).mono ?_; rintro e X ⟨rfl, L1⟩; have rX := rB.below L1 rB.lt; have hM := Base.next hL L1; have hlt := rX.lt; have k0 : X.cell? ⟨w.heap.size, 0, none⟩ = some (.int .u64 c0_0) := rX.cell 0; have k1 : X.cell? ⟨w.heap.size, 1, none⟩ = some (.int .u64 c0_1) := rX.cell 1)
    clear rB hL L1 CA k0 k1
    obtain ⟨k0, k1, k2, k3, k4, k5, k6⟩ := blk7 rX
    go_upto_region 4 with (go_at_call 10; refine (C1 X).mono ?_; rintro e y ⟨rfl, L2⟩)
    refine at_any ?_
    intro Y hY
    obtain ⟨sB, rY, hN⟩ : Blk Y y.heap.size #[.int .u64 c', .int .u64 c0_1, .int .u64 c0_2, .int .u64 c0_3, .int .u64 c0_4, .int .u64 c0_5, .int .u64 c0_6] 24 ∧ Blk Y w.heap.size #[.int .u64 c0_0, .int .u64 c0_1, .int .u64 c0_2, .int .u64 c0_3, .int .u64 c0_4, .int .u64 c0_5, .int .u64 c0_6] 24 ∧ Below w.heap.size w Y := by
      subst hY
      exact ⟨Blk.new _ _ _, (rX.below L2 hlt).alloc _, (Base.next hM L2).alloc (Base.next hM L2).size _⟩
    clear hY L2 C1 rX hM hlt k0 k1 k2 k3 k4 k5 k6
    generalize y.heap.size = sb at *
    clear y
    have hlt := rY.lt
    obtain ⟨k0, k1, k2, k3, k4, k5, k6⟩ := blk7 rY
    go_upto_region 5 with fail
    refine at_any ?_
    intro Z hZ
    obtain ⟨tB, sZ, rZ, hN2, hne, hnw⟩ : Blk Z Y.heap.size #[.int .u64 c0_0, .int .u64 c0_1, .int .u64 c0_2, .int .u64 c0_3, .int .u64 c0_4, .int .u64 c0_5, .int .u64 c0_6] 24 ∧ Blk Z sb #[.int .u64 c', .int .u64 c0_1, .int .u64 c0_2, .int .u64 c0_3, .int .u64 c0_4, .int .u64 c0_5, .int .u64 c0_6] 24 ∧ Blk Z w.heap.size #[.int .u64 c0_0, .int .u64 c0_1, .int .u64 c0_2, .int .u64 c0_3, .int .u64 c0_4, .int .u64 c0_5, .int .u64 c0_6] 24 ∧ Below w.heap.size w Z ∧ sb < Y.heap.size ∧ w.heap.size < Y.heap.size := by
      subst hZ
      exact ⟨Blk.new _ _ _, sB.alloc _, rY.alloc _, hN.alloc hN.size _, sB.lt, rY.lt⟩
    clear hZ hN sB rY hlt k0 k1 k2 k3 k4 k5 k6
    generalize Y.heap.size = tb at *
    clear Y
    have hltZ := rZ.lt
    have htZ := tB.lt
    have f0 := fun p : In (Lt Z) => inCell p (o := 0) (v := .int .u64 c0_0) (rZ.cell 0)
    refine wp_region_rest (C := fun w' => ∃ p : In (Lt Z), w' = p.w) 8 1 (by kernel_rfl) (by kernel_rfl) (by kernel_rfl) (by kernel_rfl) (by kernel_rfl) ⟨⟨Z.drew, Lt.drew Z⟩, rfl⟩ ?_
    simp only [List.toList_toArray, List.take_succ_cons, List.take_zero]
    repeat (go_big_quiet_step (first | (go_at_call 18; refine in_same (v := .int .u64 mm) ?_; exact CM _) | (go_at_call 17; refine in_same (v := .int .u64 c') ?_; exact CS _)))
    refine wpQuiet_nil ?_
    rintro w5 ⟨⟨_, hw5⟩, rfl⟩
    have hw5 : Below Z.heap.size Z w5 := hw5
    clear f0 CM CS
    have tB5 := tB.below hw5 htZ
    have sB5 := sZ.below hw5 sZ.lt
    refine wpAny_of_held (S := fun _ => True) _ _ _ _ ?_
    refine held_st (i := 8) rfl (by kernel_rfl) (by kernel_rfl) (st_cell (.tmp 31) (.tmp 30) rfl (g := tb) (i := 0) (n := c') (m := c0_0) (by kernel_rfl) (by kernel_rfl) tB5 rfl) trivial ?_
    refine held_done (by kernel_rfl) ?_
    have tB6 : Blk (w5.setCell ⟨tb, 0, none⟩ (.int .u64 c')) tb #[.int .u64 c', .int .u64 c0_1, .int .u64 c0_2, .int .u64 c0_3, .int .u64 c0_4, .int .u64 c0_5, .int .u64 c0_6] 24 := tB5.set 0 _
    have sB6 : Blk (w5.setCell ⟨tb, 0, none⟩ (.int .u64 c')) sb #[.int .u64 c', .int .u64 c0_1, .int .u64 c0_2, .int .u64 c0_3, .int .u64 c0_4, .int .u64 c0_5, .int .u64 c0_6] 24 := sB5.other (show sb ≠ tb by omega) _
    have hL6 : Below w.heap.size w (w5.setCell ⟨tb, 0, none⟩ (.int .u64 c')) := (Base.next hN2 hw5).setCell (show w.heap.size ≤ tb by omega) _
    generalize w5.setCell ⟨tb, 0, none⟩ (.int .u64 c') = W6 at *
    obtain ⟨k0, k1, k2, k3, k4, k5, k6⟩ := blk7 tB6
    obtain ⟨j0, j1, j2, j3, j4, j5, j6⟩ := blk7 sB6
    have l6 := tB6.lt
    have l7 := sB6.lt
    go_wp2_with (refine wpl_value (v := .bool true) rfl (eq_win (.tmp 32) (.tmp 33) rfl (w := ⟨c', c0_1, c0_2, c0_3, c0_4, c0_5, c0_6⟩) rfl rfl) ?_)
    go_ret
    exact ⟨rfl, hL6⟩

set_option maxRecDepth 100000 in
theorem lifted (os : Os) (started : os.Started) (H : Type) (enc : TypeId × Value → H) :
    ReturnsInHanded {} Try.checked os 8 .any (Rows.renoSlowsSpec.pre6 enc Try.prog Try.f8 Rows.renoSlowsRow.domain false) (Rows.renoSlowsSpec.post enc Try.prog Try.f8 false true false false) := by
  refine returnsInHanded_of_change (C := Try.checked) own started (by kernel_rfl) Try.func8
    (ChangeSpec.witness6 (enc := enc) (C := Try.checked) false ⟨#[], #[.agg #[.int .u64 0, .int .u64 0, .int .u64 0, .int .u64 0, .int .u64 0, .int .u64 0, .int .u64 0], .int .u64 0, .int .u64 0], []⟩ 8 (by kernel_rfl) (by kernel_rfl) (by kernel_rfl) (by kernel_rfl)) ?_
  intro W base args ds gs before hval0 hW hcnd _
  have hval : ∀ (j : Nat) t v, Try.f8.params[j]? = some t → args[j]? = some v → Value.okWide Try.prog W .any base t v := hval0
  have hW' := hW
  obtain ⟨p, q, hA0, hV, rfl, hfz, hnd⟩ := hW
  have hA : DataW.TrodAll enc Try.prog W 0 (fun _ => true) true Try.f8.params.toList args.toList ds p := hA0
  rw [Try.params8] at hA hval
  obtain ⟨v0, vs0, d0, ds0, p0, q0, hargs, rfl, rfl, h0, r0⟩ := trodAll_cons hA
  obtain ⟨v1, vs1, d1, ds1, p1, q1, rfl, rfl, rfl, h1, r1⟩ := trodAll_cons r0
  obtain ⟨v2, vs2, d2, ds2, p2, q2, rfl, rfl, rfl, h2, r2⟩ := trodAll_cons r1
  obtain ⟨rfl, rfl, rfl⟩ := trodAll_nil r2
  obtain rfl : args = #[v0, v1, v2] := by cases args; simp_all
  obtain ⟨rfl, rfl⟩ := trodVars_none hV
  have k0 := h0
  have lt0 : ∀ x ∈ p0, x.block < W.heap.size := by obtain ⟨m, hm⟩ := k0; exact DataW.trod_lt m _ _ _ hm
  obtain ⟨cs0, rfl, fl0⟩ := open_flat Try.underlying24 (show leaf Try.prog 6 24 = some [.int .u64, .int .u64, .int .u64, .int .u64, .int .u64, .int .u64, .int .u64] by kernel_rfl) (hval 0 24 v0 rfl rfl) h0
  obtain ⟨c0_0, us0, rfl, w0_0, fl0⟩ := fl0.int_
  obtain ⟨c0_1, us0, rfl, w0_1, fl0⟩ := fl0.int_
  obtain ⟨c0_2, us0, rfl, w0_2, fl0⟩ := fl0.int_
  obtain ⟨c0_3, us0, rfl, w0_3, fl0⟩ := fl0.int_
  obtain ⟨c0_4, us0, rfl, w0_4, fl0⟩ := fl0.int_
  obtain ⟨c0_5, us0, rfl, w0_5, fl0⟩ := fl0.int_
  obtain ⟨c0_6, us0, rfl, w0_6, fl0⟩ := fl0.int_
  obtain rfl := fl0.nil_
  obtain ⟨a1, rfl, rfl, rfl, w1⟩ := open_int Try.underlying22 (hval 1 22 v1 rfl rfl) h1
  obtain ⟨a2, rfl, rfl, rfl, w2⟩ := open_int Try.underlying22 (hval 2 22 v2 rfl rfl) h2
  clear hA0 hval0
  refine (walk c0_0 c0_1 c0_2 c0_3 c0_4 c0_5 c0_6 a1 a2 W w0_0 w0_1 w0_2 w0_3 w0_4 w0_5 w0_6 w1 w2).mono fun e W' ⟨he, bel⟩ => ?_
  subst he
  exact ⟨_, rfl, _, _, _, [], _, [], hW', trodAll_mk1 (shut_bool Try.underlying4 _), (trodAll_cons_mk (Below.trod laidOut (by kernel_rfl) (of_decide_eq_true (by kernel_rfl)) k0 bel lt0) (trodAll_cons_mk (shut_int Try.underlying22 w1) (trodAll_cons_mk (shut_int Try.underlying22 w2) trodAll_mk0))), rfl, bel.frame _, fun h => by cases h⟩

theorem over : Rows.renoSlowsRow.holds Try.pinned (OpenSpec.ofChange Rows.renoSlowsSpec) :=
  OpenClaim.holds_of_wide 8 Try.f8 rfl rfl rfl rfl rfl rfl rfl ⟨rfl, rfl, rfl, rfl, rfl⟩ rfl rfl rfl rfl rfl (by kernel_rfl) Try.func8 (by kernel_rfl)
    (of_decide_eq_true (by kernel_rfl)) (by unfold Func.isWrapper; first | (rw [if_pos (by decide +kernel)]; kernel_rfl) | (rw [if_neg (by decide +kernel)]; exact ⟨rfl, rfl⟩))
    (fun os started H enc _ => lifted os started H enc)

/-- The given statement. -/
theorem proved : Rows.RenoSlowsSaid :=
  over
#print axioms proved
end Go.Proofs.Ytnnceeefilpgeaa.renoSlows
