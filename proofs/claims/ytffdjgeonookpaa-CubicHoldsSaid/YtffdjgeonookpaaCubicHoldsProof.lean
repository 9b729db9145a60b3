/-
  A window grows by half of itself for a window that was acknowledged, at most, or to the fair one. No conditions.
-/
import Derived.Test.YtffdjgeonookpaaFlat
import Derived.Test.YtffdjgeonookpaaRows
import Derived.Test.YtffdjgeonookpaaRow
import Derived.WalkKit
import Derived.ProofKit
import Derived.OpenShut
import Derived.ShutString
import Derived.ChangeOld
import Derived.Below
import Derived.Test.YtffdjgeonookpaaCubicAlive
namespace Go.Proofs.Ytffdjgeonookpaa.cubicHolds
open Go.ChangeShapes Go.WideShapes Go.ChangeAt Go.RowKit
open Go.ChangeMaps (open_string shut_string)
open Go.Proofs.Ytffdjgeonookpaa.Base
set_option linter.unusedVariables false
set_option linter.unusedSimpArgs false

theorem own : ownKnob Try.prog.godebug = none := by kernel_rfl
theorem laidOut : laidOutB Try.prog = true := by kernel_rfl

open Go.Proofs.Ytffdjgeonookpaa.Cubic Go.Proofs.Ytffdjgeonookpaa.CubicPlain Go.Proofs.Ytffdjgeonookpaa.Reno Go.Proofs.Ytffdjgeonookpaa.RenoPlain Go.Proofs.Ytffdjgeonookpaa.Hop
set_option maxHeartbeats 4000000 in
set_option maxRecDepth 20000 in
theorem walk (c0_0 : Int) (c0_1 : Int) (c0_2 : Int) (c0_3 : Int) (c0_4 : Int) (c0_5 : Int) (c0_6 : Int) (a1 : Int) (a2 : Int) (a3 : Int) (a4 : Int) (w : World) (w0_0 : (Lit.int .u64 c0_0).wf = true) (w0_1 : (Lit.int .u64 c0_1).wf = true) (w0_2 : (Lit.int .u64 c0_2).wf = true) (w0_3 : (Lit.int .u64 c0_3).wf = true) (w0_4 : (Lit.int .u64 c0_4).wf = true) (w0_5 : (Lit.int .u64 c0_5).wf = true) (w0_6 : (Lit.int .u64 c0_6).wf = true) (w1 : (Lit.int .u32 a1).wf = true) (w2 : (Lit.int .u16 a2).wf = true) (w3 : (Lit.int .u64 a3).wf = true) (w4 : (Lit.int .u64 a4).wf = true) :
    Calls Try.prog 10 #[.agg #[.int .u64 c0_0, .int .u64 c0_1, .int .u64 c0_2, .int .u64 c0_3, .int .u64 c0_4, .int .u64 c0_5, .int .u64 c0_6], .int .u32 a1, .int .u16 a2, .int .u64 a3, .int .u64 a4] w fun e w' => e = .returned (.bool true) ∧ Below w.heap.size w w' := by
  obtain ⟨x0, x1⟩ := Base.u64_of w0_0
  obtain ⟨y0, y1⟩ := Base.u64_of w0_6
  obtain ⟨l0, l1⟩ := Base.u32_of w1
  obtain ⟨m0, m1⟩ := Base.u16_of w2
  have hn : U a3 := Base.u64_of w3
  have hs : U a4 := Base.u64_of w4
  have CA := fun V => alive_cubic V
  obtain ⟨c, hc⟩ : ∃ c, c0_0 % 1073741824 + 1 = c := ⟨_, rfl⟩
  obtain ⟨f, hf⟩ : ∃ f, c0_6 % 1073741824 = f := ⟨_, rfl⟩
  have e1 : c0_0.tmod 1073741824 + 1 = c := by rw [Int.tmod_eq_emod_of_nonneg x0, hc]
  have e2 : c0_6.tmod 1073741824 = f := by rw [Int.tmod_eq_emod_of_nonneg y0, hf]
  have bc : 1 ≤ c ∧ c ≤ 1073741824 := by omega
  have bf : 0 ≤ f ∧ f < 1073741824 := by omega
  by_cases hct : c < c0_1
  · go_enter Try.func10, Try.ntmps10
    go_upto_region 1 with fail
    refine at_any ?_
    intro W0 hW
    obtain ⟨rB, hL⟩ : Blk W0 w.heap.size #[.int .u64 c0_0, .int .u64 c0_1, .int .u64 c0_2, .int .u64 c0_3, .int .u64 c0_4, .int .u64 c0_5, .int .u64 c0_6] 29 ∧ Below w.heap.size w W0 := by
      subst hW
      exact ⟨Blk.new _ _ _, (Below.refl _ _).alloc (Nat.le_refl _) _⟩
    clear hW
    have hlt := rB.lt
    obtain ⟨k0, k1, k2, k3, k4, k5, k6⟩ := blk7 rB
    have z0 := rB.free 0
    have z6 := rB.free 6
    go_upto_region 2 with fail
    refine at_any ?_
    intro W1 hW
    obtain ⟨rB', hL'⟩ : Blk W1 w.heap.size #[.int .u64 c, .int .u64 c0_1, .int .u64 c0_2, .int .u64 c0_3, .int .u64 c0_4, .int .u64 c0_5, .int .u64 f] 29 ∧ Below w.heap.size w W1 := by
      subst hW
      exact ⟨(rB.set 0 (.int .u64 c)).set 6 (.int .u64 f), (hL.setCell (Nat.le_refl _) _).setCell (Nat.le_refl _) _⟩
    clear hW rB hL hlt k0 k1 k2 k3 k4 k5 k6 z0 z6 e1 e2 hc hf
    have hlt := rB'.lt
    obtain ⟨k0, k1, k2, k3, k4, k5, k6⟩ := blk7 rB'
    go_wp2_with (first
      | (go_at_call 11; (with_reducible refine (CA W1).mono ?_); rintro e X ⟨rfl, L1⟩; have rX := rB'.below L1 rB'.lt; clear k0 k1; have k0 : X.cell? ⟨w.heap.size, 0, none⟩ = some (.int .u64 c) := rX.cell 0; have k1 : X.cell? ⟨w.heap.size, 1, none⟩ = some (.int .u64 c0_1) := rX.cell 1; have hlt := rX.lt)
      | (go_at_call 11; (with_reducible refine (CA X).mono ?_); rintro e X2 ⟨rfl, L2⟩))
    all_goals go_ret
    all_goals exact ⟨rfl, Base.next (Base.next hL' L1) L2⟩
  · have hx : WFit ⟨c, c0_1, c0_2, c0_3, c0_4, c0_5, f⟩ := ⟨⟨by show 0 ≤ c; omega, by show c ≤ _; omega⟩, Base.u64_of w0_1, Base.u64_of w0_2, Base.u64_of w0_3, Base.u64_of w0_4, Base.u64_of w0_5, ⟨bf.1, by show f ≤ _; omega⟩⟩
    have C1 := fun V => grow_any ⟨c, c0_1, c0_2, c0_3, c0_4, c0_5, f⟩ hx a1 a2 a3 a4 ⟨l0, by omega⟩ ⟨m0, by omega⟩ hn hs V
    obtain ⟨h1, h2, h3, h4, h5⟩ := holds hx bc.1 bc.2 bf.2 (show ¬ c < c0_1 from hct) l0 l1 m0 m1 hn hs
    have hfit := fit_growC hx (acked := a1) (mss := a2) (now := a3) (smooth := a4) ⟨l0, by omega⟩ ⟨m0, by omega⟩ hn hs
    generalize growC ⟨c, c0_1, c0_2, c0_3, c0_4, c0_5, f⟩ a1 a2 a3 a4 = q at *
    obtain ⟨q0, q1, q2, q3, q4, q5, q6⟩ := q
    have hq0 := hfit.cw
    have hq6 := hfit.fr
    unfold WinPost wc at C1
    simp only at C1 h1 h2 h3 h4 h5 hq0 hq6
    subst h4
    subst h5
    have CM := fun V => Sat.ref_mul a2 a1 m0 (by omega) l0 (by omega) V
    have hma : 0 ≤ a2 * a1 := Int.mul_nonneg m0 l0
    have hma2 : a2 * a1 ≤ 65535 * 4294967295 := Int.mul_le_mul m1 l1 l0 (by decide)
    have hmm : Sat.mul a2 a1 = a2 * a1 := Sat.mul_fits (by omega)
    rw [hmm] at CM h3
    clear hmm
    generalize a2 * a1 = ma at *
    unfold U at *
    obtain ⟨h, eh⟩ : ∃ h, a1 / 2 = h := ⟨_, rfl⟩
    have ed : a1.tdiv 2 = h := by rw [Int.tdiv_eq_ediv_of_nonneg l0, eh]
    have bh : 0 ≤ h ∧ h ≤ 4294967295 := by omega
    rw [eh] at h2
    obtain ⟨mx, em⟩ : ∃ mx, max f c = mx := ⟨_, rfl⟩
    have emx : (if f < c then c else f) = mx := by rw [← em]; split <;> omega
    have emx2 : max f c = mx := em
    have bmx : 0 ≤ mx ∧ mx ≤ 1073741824 := by omega
    rw [em] at h3
    clear em eh
    have t1 : decide (c ≤ q0) = true := by simpa using h1
    have wr1 : IntKind.u64.wrap (c + h) = c + h := by rw [IntKind.wrap_u64]; omega
    have wr2 : IntKind.u64.wrap (mx + ma) = mx + ma := by rw [IntKind.wrap_u64]; omega
    have t3 : decide (q6 ≤ mx + ma) = true := by simpa using h3
    by_cases h6 : q0 ≤ c + h
    · have t2 : decide (q0 ≤ c + h) = true := by simpa using h6
      clear h6 h2
      go_enter Try.func10, Try.ntmps10
      go_upto_region 1 with fail
      refine at_any ?_
      intro W0 hW
      obtain ⟨rB, hL⟩ : Blk W0 w.heap.size #[.int .u64 c0_0, .int .u64 q1, .int .u64 q2, .int .u64 c0_3, .int .u64 c0_4, .int .u64 c0_5, .int .u64 c0_6] 29 ∧ Below w.heap.size w W0 := by
        subst hW
        exact ⟨Blk.new _ _ _, (Below.refl _ _).alloc (Nat.le_refl _) _⟩
      clear hW
      have hlt := rB.lt
      obtain ⟨k0, k1, k2, k3, k4, k5, k6⟩ := blk7 rB
      have z0 := rB.free 0
      have z6 := rB.free 6
      go_upto_region 2 with fail
      refine at_any ?_
      intro W1 hW
      obtain ⟨rB', hL'⟩ : Blk W1 w.heap.size #[.int .u64 c, .int .u64 q1, .int .u64 q2, .int .u64 c0_3, .int .u64 c0_4, .int .u64 c0_5, .int .u64 f] 29 ∧ Below w.heap.size w W1 := by
        subst hW
        exact ⟨(rB.set 0 (.int .u64 c)).set 6 (.int .u64 f), (hL.setCell (Nat.le_refl _) _).setCell (Nat.le_refl _) _⟩
      clear hW rB hL hlt k0 k1 k2 k3 k4 k5 k6 z0 z6 e1 e2
      have hlt := rB'.lt
      obtain ⟨k0, k1, k2, k3, k4, k5, k6⟩ := blk7 rB'
      go_upto_region 4 with (go_at_call 11; refine (CA W1).mono ?_; rintro e X ⟨rfl, L1⟩; have rX := rB'.below L1 rB'.lt; have hM := Base.next hL' L1; clear k0 k1; have k0 : X.cell? ⟨w.heap.size, 0, none⟩ = some (.int .u64 c) := rX.cell 0; have k1 : X.cell? ⟨w.heap.size, 1, none⟩ = some (.int .u64 q1) := rX.cell 1; have hlt := rX.lt)
      clear rB' hL' L1 CA k0 k1 k2 k3 k4 k5 k6
      obtain ⟨k0, k1, k2, k3, k4, k5, k6⟩ := blk7 rX
      go_upto_region 5 with (go_at_call 16; refine (C1 X).mono ?_; rintro e y ⟨rfl, L2⟩)
      refine at_any ?_
      intro Y hY
      obtain ⟨sB, rY, hN⟩ : Blk Y y.heap.size #[.int .u64 q0, .int .u64 q1, .int .u64 q2, .int .u64 q3, .int .u64 q4, .int .u64 q5, .int .u64 q6] 29 ∧ Blk Y w.heap.size #[.int .u64 c, .int .u64 q1, .int .u64 q2, .int .u64 c0_3, .int .u64 c0_4, .int .u64 c0_5, .int .u64 f] 29 ∧ Below w.heap.size w Y := by
        subst hY
        exact ⟨Blk.new _ _ _, (rX.below L2 hlt).alloc _, (Base.next hM L2).alloc (Base.next hM L2).size _⟩
      clear hY L2 C1 rX hM hlt k0 k1 k2 k3 k4 k5 k6
      generalize y.heap.size = sb at *
      clear y
      obtain ⟨k0, k1, k2, k3, k4, k5, k6⟩ := blk7 rY
      obtain ⟨j0, j1, j2, j3, j4, j5, j6⟩ := blk7 sB
      have f0 := fun p : In (Lt Y) => inCell p k0
      have g0 := fun p : In (Lt Y) => inCell p j0
      have f1 := fun p : In (Lt Y) => inCell p k1
      have g1 := fun p : In (Lt Y) => inCell p j1
      have f2 := fun p : In (Lt Y) => inCell p k2
      have g2 := fun p : In (Lt Y) => inCell p j2
      have f6 := fun p : In (Lt Y) => inCell p k6
      have g6 := fun p : In (Lt Y) => inCell p j6
      clear k0 k1 k2 k3 k4 k5 k6 j0 j1 j2 j3 j4 j5 j6
      refine wp_region_in (Lt Y) (Lt.drew Y) (by kernel_rfl) (by kernel_rfl) ?_
      repeat (go_big_quiet_step (first | (go_at_call 20; refine in_same (v := .int .u64 ma) ?_; exact CM _)))
      refine wpQuiet_nil ?_
      rintro u2 ⟨⟨_, hw2⟩, rfl⟩
      have hw2 : Below Y.heap.size Y u2 := hw2
      go_wp2
      go_ret
      exact ⟨rfl, Base.next hN hw2⟩
    · have t2 : decide (q0 ≤ c + h) = false := by simpa using h6
      have t4 : (q0 == q6) = true := by simp; omega
      clear h6 h2
      go_enter Try.func10, Try.ntmps10
      go_upto_region 1 with fail
      refine at_any ?_
      intro W0 hW
      obtain ⟨rB, hL⟩ : Blk W0 w.heap.size #[.int .u64 c0_0, .int .u64 q1, .int .u64 q2, .int .u64 c0_3, .int .u64 c0_4, .int .u64 c0_5, .int .u64 c0_6] 29 ∧ Below w.heap.size w W0 := by
        subst hW
        exact ⟨Blk.new _ _ _, (Below.refl _ _).alloc (Nat.le_refl _) _⟩
      clear hW
      have hlt := rB.lt
      obtain ⟨k0, k1, k2, k3, k4, k5, k6⟩ := blk7 rB
      have z0 := rB.free 0
      have z6 := rB.free 6
      go_upto_region 2 with fail
      refine at_any ?_
      intro W1 hW
      obtain ⟨rB', hL'⟩ : Blk W1 w.heap.size #[.int .u64 c, .int .u64 q1, .int .u64 q2, .int .u64 c0_3, .int .u64 c0_4, .int .u64 c0_5, .int .u64 f] 29 ∧ Below w.heap.size w W1 := by
        subst hW
        exact ⟨(rB.set 0 (.int .u64 c)).set 6 (.int .u64 f), (hL.setCell (Nat.le_refl _) _).setCell (Nat.le_refl _) _⟩
      clear hW rB hL hlt k0 k1 k2 k3 k4 k5 k6 z0 z6 e1 e2
      have hlt := rB'.lt
      obtain ⟨k0, k1, k2, k3, k4, k5, k6⟩ := blk7 rB'
      go_upto_region 4 with (go_at_call 11; refine (CA W1).mono ?_; rintro e X ⟨rfl, L1⟩; have rX := rB'.below L1 rB'.lt; have hM := Base.next hL' L1; clear k0 k1; have k0 : X.cell? ⟨w.heap.size, 0, none⟩ = some (.int .u64 c) := rX.cell 0; have k1 : X.cell? ⟨w.heap.size, 1, none⟩ = some (.int .u64 q1) := rX.cell 1; have hlt := rX.lt)
      clear rB' hL' L1 CA k0 k1 k2 k3 k4 k5 k6
      obtain ⟨k0, k1, k2, k3, k4, k5, k6⟩ := blk7 rX
      go_upto_region 5 with (go_at_call 16; refine (C1 X).mono ?_; rintro e y ⟨rfl, L2⟩)
      refine at_any ?_
      intro Y hY
      obtain ⟨sB, rY, hN⟩ : Blk Y y.heap.size #[.int .u64 q0, .int .u64 q1, .int .u64 q2, .int .u64 q3, .int .u64 q4, .int .u64 q5, .int .u64 q6] 29 ∧ Blk Y w.heap.size #[.int .u64 c, .int .u64 q1, .int .u64 q2, .int .u64 c0_3, .int .u64 c0_4, .int .u64 c0_5, .int .u64 f] 29 ∧ Below w.heap.size w Y := by
        subst hY
        exact ⟨Blk.new _ _ _, (rX.below L2 hlt).alloc _, (Base.next hM L2).alloc (Base.next hM L2).size _⟩
      clear hY L2 C1 rX hM hlt k0 k1 k2 k3 k4 k5 k6
      generalize y.heap.size = sb at *
      clear y
      obtain ⟨k0, k1, k2, k3, k4, k5, k6⟩ := blk7 rY
      obtain ⟨j0, j1, j2, j3, j4, j5, j6⟩ := blk7 sB
      have f0 := fun p : In (Lt Y) => inCell p k0
      have g0 := fun p : In (Lt Y) => inCell p j0
      have f1 := fun p : In (Lt Y) => inCell p k1
      have g1 := fun p : In (Lt Y) => inCell p j1
      have f2 := fun p : In (Lt Y) => inCell p k2
      have g2 := fun p : In (Lt Y) => inCell p j2
      have f6 := fun p : In (Lt Y) => inCell p k6
      have g6 := fun p : In (Lt Y) => inCell p j6
      clear k0 k1 k2 k3 k4 k5 k6 j0 j1 j2 j3 j4 j5 j6
      refine wp_region_in (Lt Y) (Lt.drew Y) (by kernel_rfl) (by kernel_rfl) ?_
      repeat (go_big_quiet_step (first | (go_at_call 20; refine in_same (v := .int .u64 ma) ?_; exact CM _)))
      refine wpQuiet_nil ?_
      rintro u2 ⟨⟨_, hw2⟩, rfl⟩
      have hw2 : Below Y.heap.size Y u2 := hw2
      go_wp2
      go_ret
      exact ⟨rfl, Base.next hN hw2⟩

set_option maxRecDepth 100000 in
theorem lifted (os : Os) (started : os.Started) (H : Type) (enc : TypeId × Value → H) :
    ReturnsInHanded {} Try.checked os 10 .any (Rows.cubicHoldsSpec.pre6 enc Try.prog Try.f10 Rows.cubicHoldsRow.domain false) (Rows.cubicHoldsSpec.post enc Try.prog Try.f10 false true false false) := by
  refine returnsInHanded_of_change (C := Try.checked) own started (by kernel_rfl) Try.func10
    (ChangeSpec.witness6 (enc := enc) (C := Try.checked) false ⟨#[], #[.agg #[.int .u64 0, .int .u64 0, .int .u64 0, .int .u64 0, .int .u64 0, .int .u64 0, .int .u64 0], .int .u32 0, .int .u16 0, .int .u64 0, .int .u64 0], []⟩ 8 (by kernel_rfl) (by kernel_rfl) (by kernel_rfl) (by kernel_rfl)) ?_
  intro W base args ds gs before hval0 hW hcnd _
  have hval : ∀ (j : Nat) t v, Try.f10.params[j]? = some t → args[j]? = some v → Value.okWide Try.prog W .any base t v := hval0
  have hW' := hW
  obtain ⟨p, q, hA0, hV, rfl, hfz, hnd⟩ := hW
  have hA : DataW.TrodAll enc Try.prog W 0 (fun _ => true) true Try.f10.params.toList args.toList ds p := hA0
  rw [Try.params10] at hA hval
  obtain ⟨v0, vs0, d0, ds0, p0, q0, hargs, rfl, rfl, h0, r0⟩ := trodAll_cons hA
  obtain ⟨v1, vs1, d1, ds1, p1, q1, rfl, rfl, rfl, h1, r1⟩ := trodAll_cons r0
  obtain ⟨v2, vs2, d2, ds2, p2, q2, rfl, rfl, rfl, h2, r2⟩ := trodAll_cons r1
  obtain ⟨v3, vs3, d3, ds3, p3, q3, rfl, rfl, rfl, h3, r3⟩ := trodAll_cons r2
  obtain ⟨v4, vs4, d4, ds4, p4, q4, rfl, rfl, rfl, h4, r4⟩ := trodAll_cons r3
  obtain ⟨rfl, rfl, rfl⟩ := trodAll_nil r4
  obtain rfl : args = #[v0, v1, v2, v3, v4] := by cases args; simp_all
  obtain ⟨rfl, rfl⟩ := trodVars_none hV
  have k0 := h0
  have lt0 : ∀ x ∈ p0, x.block < W.heap.size := by obtain ⟨m, hm⟩ := k0; exact DataW.trod_lt m _ _ _ hm
  obtain ⟨cs0, rfl, fl0⟩ := open_flat Try.underlying29 (show leaf Try.prog 6 29 = some [.int .u64, .int .u64, .int .u64, .int .u64, .int .u64, .int .u64, .int .u64] by kernel_rfl) (hval 0 29 v0 rfl rfl) h0
  obtain ⟨c0_0, us0, rfl, w0_0, fl0⟩ := fl0.int_
  obtain ⟨c0_1, us0, rfl, w0_1, fl0⟩ := fl0.int_
  obtain ⟨c0_2, us0, rfl, w0_2, fl0⟩ := fl0.int_
  obtain ⟨c0_3, us0, rfl, w0_3, fl0⟩ := fl0.int_
  obtain ⟨c0_4, us0, rfl, w0_4, fl0⟩ := fl0.int_
  obtain ⟨c0_5, us0, rfl, w0_5, fl0⟩ := fl0.int_
  obtain ⟨c0_6, us0, rfl, w0_6, fl0⟩ := fl0.int_
  obtain rfl := fl0.nil_
  obtain ⟨a1, rfl, rfl, rfl, w1⟩ := open_int Try.underlying35 (hval 1 35 v1 rfl rfl) h1
  obtain ⟨a2, rfl, rfl, rfl, w2⟩ := open_int Try.underlying37 (hval 2 37 v2 rfl rfl) h2
  obtain ⟨a3, rfl, rfl, rfl, w3⟩ := open_int Try.underlying22 (hval 3 22 v3 rfl rfl) h3
  obtain ⟨a4, rfl, rfl, rfl, w4⟩ := open_int Try.underlying22 (hval 4 22 v4 rfl rfl) h4
  clear hA0 hval0
  refine (walk c0_0 c0_1 c0_2 c0_3 c0_4 c0_5 c0_6 a1 a2 a3 a4 W w0_0 w0_1 w0_2 w0_3 w0_4 w0_5 w0_6 w1 w2 w3 w4).mono fun e W' ⟨he, bel⟩ => ?_
  subst he
  exact ⟨_, rfl, _, _, _, [], _, [], hW', trodAll_mk1 (shut_bool Try.underlying4 _), (trodAll_cons_mk (Below.trod laidOut (by kernel_rfl) (of_decide_eq_true (by kernel_rfl)) k0 bel lt0) (trodAll_cons_mk (shut_int Try.underlying35 w1) (trodAll_cons_mk (shut_int Try.underlying37 w2) (trodAll_cons_mk (shut_int Try.underlying22 w3) (trodAll_cons_mk (shut_int Try.underlying22 w4) trodAll_mk0))))), rfl, bel.frame _, fun h => by cases h⟩

theorem over : Rows.cubicHoldsRow.holds Try.pinned (OpenSpec.ofChange Rows.cubicHoldsSpec) :=
  OpenClaim.holds_of_wide 10 Try.f10 rfl rfl rfl rfl rfl rfl rfl ⟨rfl, rfl, rfl, rfl, rfl⟩ rfl rfl rfl rfl rfl (by kernel_rfl) Try.func10 (by kernel_rfl)
    (of_decide_eq_true (by kernel_rfl)) (by unfold Func.isWrapper; first | (rw [if_pos (by decide +kernel)]; kernel_rfl) | (rw [if_neg (by decide +kernel)]; exact ⟨rfl, rfl⟩))
    (fun os started H enc _ => lifted os started H enc)

/-- The given statement. -/
theorem proved : Rows.CubicHoldsSaid :=
  over
#print axioms proved
end Go.Proofs.Ytffdjgeonookpaa.cubicHolds
