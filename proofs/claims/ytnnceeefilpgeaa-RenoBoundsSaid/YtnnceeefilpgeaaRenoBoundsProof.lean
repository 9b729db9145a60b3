/-
  A window, and the bytes that wait to grow it, grow by no more than what was acknowledged. No conditions.
-/
import Derived.Test.YtnnceeefilpgeaaRows
import Derived.Test.YtnnceeefilpgeaaRow
import Derived.WalkKit
import Derived.ProofKit
import Derived.OpenShut
import Derived.ShutString
import Derived.ChangeOld
import Derived.Below
import Derived.Test.YtnnceeefilpgeaaRenoAlive
namespace Go.Proofs.Ytnnceeefilpgeaa.renoBounds
open Go.ChangeShapes Go.WideShapes Go.ChangeAt Go.RowKit
open Go.ChangeMaps (open_string shut_string)
open Go.Proofs.Ytnnceeefilpgeaa.Base
set_option linter.unusedVariables false
set_option linter.unusedSimpArgs false

theorem own : ownKnob Try.prog.godebug = none := by kernel_rfl
theorem laidOut : laidOutB Try.prog = true := by kernel_rfl

open Go.Proofs.Ytnnceeefilpgeaa.Reno Go.Proofs.Ytnnceeefilpgeaa.RenoPlain Go.Proofs.Ytnnceeefilpgeaa.Hop
theorem bounds {m c t a k : Int} (m0 : 0 ≤ m) (m1 : m ≤ 65535) (c0 : 0 ≤ c) (c1 : c ≤ 4294967295) (a0 : 0 ≤ a) (a1 : a ≤ 4294967295) (k0 : 0 ≤ k) (k1 : k ≤ 4294967295) :
    (growR ⟨m + c, t, a, 0, 0, 0, 0⟩ k m).cw + (growR ⟨m + c, t, a, 0, 0, 0, 0⟩ k m).ac ≤ m + c + a + k ∧ m + c ≤ (growR ⟨m + c, t, a, 0, 0, 0, 0⟩ k m).cw ∧ (growR ⟨m + c, t, a, 0, 0, 0, 0⟩ k m).cw - (m + c) ≤ 2 * m ∧ (growR ⟨m + c, t, a, 0, 0, 0, 0⟩ k m).th = t ∧ 0 ≤ (growR ⟨m + c, t, a, 0, 0, 0, 0⟩ k m).ac ∧ (growR ⟨m + c, t, a, 0, 0, 0, 0⟩ k m).ac ≤ a + k := by
  have h1 : Sat.mul 2 m = 2 * m := by unfold Sat.mul; rw [if_pos (by omega)]
  have h2 : Sat.add a k = a + k := by unfold Sat.add; rw [if_pos (by omega)]
  have h3 : Sat.add (m + c) m = m + c + m := by unfold Sat.add; rw [if_pos (by omega)]
  obtain ⟨x, hx, x0, x1, x2⟩ : ∃ x, min k (2 * m) = x ∧ 0 ≤ x ∧ x ≤ k ∧ x ≤ 2 * m := ⟨_, rfl, by omega, by omega, by omega⟩
  have h4 : Sat.add (m + c) x = m + c + x := by unfold Sat.add; rw [if_pos (by omega)]
  unfold growR slowW
  rw [h1, hx]
  simp only
  rw [h2, h3, h4]
  clear h1 h2 h3 h4 hx
  split
  · refine ⟨?_, ?_, ?_, ?_, ?_, ?_⟩ <;> dsimp only <;> omega
  · split
    · refine ⟨?_, ?_, ?_, ?_, ?_, ?_⟩ <;> dsimp only <;> omega
    · refine ⟨?_, ?_, ?_, ?_, ?_, ?_⟩ <;> dsimp only <;> omega
set_option maxHeartbeats 4000000 in
set_option maxRecDepth 20000 in
theorem walk (a0 : Int) (a1 : Int) (a2 : Int) (a3 : Int) (a4 : Int) (w : World) (w0 : (Lit.int .u32 a0).wf = true) (w1 : (Lit.int .u32 a1).wf = true) (w2 : (Lit.int .u32 a2).wf = true) (w3 : (Lit.int .u32 a3).wf = true) (w4 : (Lit.int .u16 a4).wf = true) :
    Calls Try.prog 5 #[.int .u32 a0, .int .u32 a1, .int .u32 a2, .int .u32 a3, .int .u16 a4] w fun e w' => e = .returned (.bool true) ∧ Below w.heap.size w w' := by
  obtain ⟨c0, c1⟩ := Base.u32_of w0
  obtain ⟨t0, t1⟩ := Base.u32_of w1
  obtain ⟨e0, e1⟩ := Base.u32_of w2
  obtain ⟨l0, l1⟩ := Base.u32_of w3
  obtain ⟨m0, m1⟩ := Base.u16_of w4
  have C1 := fun V => grow_any ⟨a4 + a0, a1, a2, 0, 0, 0, 0⟩ ⟨⟨by show 0 ≤ a4 + a0; omega, by show a4 + a0 ≤ _; omega⟩, ⟨t0, by show a1 ≤ _; omega⟩, ⟨e0, by show a2 ≤ _; omega⟩, uS 0, uS 0, uS 0, uS 0⟩ a3 a4 ⟨l0, by omega⟩ ⟨m0, by omega⟩ V
  obtain ⟨h1, h2, h3, h4, h5, h6⟩ := bounds (t := a1) m0 m1 c0 c1 e0 e1 l0 l1
  generalize growR ⟨a4 + a0, a1, a2, 0, 0, 0, 0⟩ a3 a4 = q at *
  obtain ⟨q0, q1, q2, q3, q4, q5, q6⟩ := q
  unfold WinPost wc at C1
  simp only at C1 h1 h2 h3 h4 h5 h6
  subst h4
  have CA := fun V => alive_reno V
  go_enter Try.func5, Try.ntmps5
  go_upto_region 3 with fail
  refine at_any ?_
  intro W0 hW
  obtain ⟨rB, hL⟩ : Blk W0 w.heap.size #[.int .u64 (a4 + a0), .int .u64 q1, .int .u64 a2, .int .u64 0, .int .u64 0, .int .u64 0, .int .u64 0] 24 ∧ Below w.heap.size w W0 := by
    subst hW
    exact ⟨Blk.new _ _ _, (Below.refl _ _).alloc (Nat.le_refl _) _⟩
  clear hW
  go_upto_region 5 with (go_at_call 9; refine (CA W0).mono ?_; rintro e X ⟨rfl, L1⟩)
  have rX := rB.below L1 rB.lt
  have hM := Base.next hL L1
  clear rB hL L1 CA
  have hlt := rX.lt
  obtain ⟨k0, k1, k2, k3, k4, k5, k6⟩ := blk7 rX
  go_upto_region 6 with (go_at_call 10; refine (C1 X).mono ?_; rintro e y ⟨rfl, L2⟩)
  refine at_any ?_
  intro Y hY
  obtain ⟨sB, rY, hN⟩ : Blk Y y.heap.size #[.int .u64 q0, .int .u64 q1, .int .u64 q2, .int .u64 q3, .int .u64 q4, .int .u64 q5, .int .u64 q6] 24 ∧ Blk Y w.heap.size #[.int .u64 (a4 + a0), .int .u64 q1, .int .u64 a2, .int .u64 0, .int .u64 0, .int .u64 0, .int .u64 0] 24 ∧ Below w.heap.size w Y := by
    subst hY
    exact ⟨Blk.new _ _ _, (rX.below L2 hlt).alloc _, (Base.next hM L2).alloc (Base.next hM L2).size _⟩
  clear hY L2 C1 rX hM hlt k0 k1 k2 k3 k4 k5 k6
  generalize y.heap.size = sb at *
  have hlt := rY.lt
  have hl2 := sB.lt
  obtain ⟨k0, k1, k2, k3, k4, k5, k6⟩ := blk7 rY
  obtain ⟨j0, j1, j2, j3, j4, j5, j6⟩ := blk7 sB
  go_wp2
  all_goals go_ret
  all_goals exact ⟨rfl, hN⟩

set_option maxRecDepth 100000 in
theorem lifted (os : Os) (started : os.Started) (H : Type) (enc : TypeId × Value → H) :
    ReturnsInHanded {} Try.checked os 5 .any (Rows.renoBoundsSpec.pre6 enc Try.prog Try.f5 Rows.renoBoundsRow.domain false) (Rows.renoBoundsSpec.post enc Try.prog Try.f5 false true false false) := by
  refine returnsInHanded_of_change (C := Try.checked) own started (by kernel_rfl) Try.func5
    (ChangeSpec.witness6 (enc := enc) (C := Try.checked) false ⟨#[], #[.int .u32 0, .int .u32 0, .int .u32 0, .int .u32 0, .int .u16 0], []⟩ 8 (by kernel_rfl) (by kernel_rfl) (by kernel_rfl) (by kernel_rfl)) ?_
  intro W base args ds gs before hval0 hW hcnd _
  have hval : ∀ (j : Nat) t v, Try.f5.params[j]? = some t → args[j]? = some v → Value.okWide Try.prog W .any base t v := hval0
  have hW' := hW
  obtain ⟨p, q, hA0, hV, rfl, hfz, hnd⟩ := hW
  have hA : DataW.TrodAll enc Try.prog W 0 (fun _ => true) true Try.f5.params.toList args.toList ds p := hA0
  rw [Try.params5] at hA hval
  obtain ⟨v0, vs0, d0, ds0, p0, q0, hargs, rfl, rfl, h0, r0⟩ := trodAll_cons hA
  obtain ⟨v1, vs1, d1, ds1, p1, q1, rfl, rfl, rfl, h1, r1⟩ := trodAll_cons r0
  obtain ⟨v2, vs2, d2, ds2, p2, q2, rfl, rfl, rfl, h2, r2⟩ := trodAll_cons r1
  obtain ⟨v3, vs3, d3, ds3, p3, q3, rfl, rfl, rfl, h3, r3⟩ := trodAll_cons r2
  obtain ⟨v4, vs4, d4, ds4, p4, q4, rfl, rfl, rfl, h4, r4⟩ := trodAll_cons r3
  obtain ⟨rfl, rfl, rfl⟩ := trodAll_nil r4
  obtain rfl : args = #[v0, v1, v2, v3, v4] := by cases args; simp_all
  obtain ⟨rfl, rfl⟩ := trodVars_none hV
  obtain ⟨a0, rfl, rfl, rfl, w0⟩ := open_int Try.underlying28 (hval 0 28 v0 rfl rfl) h0
  obtain ⟨a1, rfl, rfl, rfl, w1⟩ := open_int Try.underlying28 (hval 1 28 v1 rfl rfl) h1
  obtain ⟨a2, rfl, rfl, rfl, w2⟩ := open_int Try.underlying28 (hval 2 28 v2 rfl rfl) h2
  obtain ⟨a3, rfl, rfl, rfl, w3⟩ := open_int Try.underlying28 (hval 3 28 v3 rfl rfl) h3
  obtain ⟨a4, rfl, rfl, rfl, w4⟩ := open_int Try.underlying29 (hval 4 29 v4 rfl rfl) h4
  clear hA0 hval0
  refine (walk a0 a1 a2 a3 a4 W w0 w1 w2 w3 w4).mono fun e W' ⟨he, bel⟩ => ?_
  subst he
  exact ⟨_, rfl, _, _, _, [], _, [], hW', trodAll_mk1 (shut_bool Try.underlying4 _), (trodAll_cons_mk (shut_int Try.underlying28 w0) (trodAll_cons_mk (shut_int Try.underlying28 w1) (trodAll_cons_mk (shut_int Try.underlying28 w2) (trodAll_cons_mk (shut_int Try.underlying28 w3) (trodAll_cons_mk (shut_int Try.underlying29 w4) trodAll_mk0))))), rfl, bel.frame _, fun h => by cases h⟩

theorem over : Rows.renoBoundsRow.holds Try.pinned (OpenSpec.ofChange Rows.renoBoundsSpec) :=
  OpenClaim.holds_of_wide 5 Try.f5 rfl rfl rfl rfl rfl rfl rfl ⟨rfl, rfl, rfl, rfl, rfl⟩ rfl rfl rfl rfl rfl (by kernel_rfl) Try.func5 (by kernel_rfl)
    (of_decide_eq_true (by kernel_rfl)) (by unfold Func.isWrapper; first | (rw [if_pos (by decide +kernel)]; kernel_rfl) | (rw [if_neg (by decide +kernel)]; exact ⟨rfl, rfl⟩))
    (fun os started H enc _ => lifted os started H enc)

/-- The given statement. -/
theorem proved : Rows.RenoBoundsSaid :=
  over
#print axioms proved
end Go.Proofs.Ytnnceeefilpgeaa.renoBounds
