/-
  A bucket that is filled on the way is as full as one that is filled at the end. No conditions.
-/
import Derived.Test.YtbamdilihpnhjaaFlat
import Derived.Test.YtbamdilihpnhjaaRows
import Derived.Test.YtbamdilihpnhjaaRow
import Derived.WalkKit
import Derived.ProofKit
import Derived.OpenShut
import Derived.ShutString
import Derived.ChangeOld
import Derived.Below
import Derived.Test.YtbamdilihpnhjaaPacerAlive
namespace Go.Proofs.Ytbamdilihpnhjaa.pacerTwice
open Go.ChangeShapes Go.WideShapes Go.ChangeAt Go.RowKit
open Go.ChangeMaps (open_string shut_string)
open Go.Proofs.Ytbamdilihpnhjaa.Base
set_option linter.unusedVariables false
set_option linter.unusedSimpArgs false

theorem own : ownKnob Try.prog.godebug = none := by kernel_rfl
theorem laidOut : laidOutB Try.prog = true := by kernel_rfl

open Go.Proofs.Ytbamdilihpnhjaa.Pacer Go.Proofs.Ytbamdilihpnhjaa.PacerPlain Go.Proofs.Ytbamdilihpnhjaa.RenoPlain Go.Proofs.Ytbamdilihpnhjaa.Reno Go.Proofs.Ytbamdilihpnhjaa.Hop
set_option maxHeartbeats 4000000 in
set_option maxRecDepth 20000 in
theorem walk (c0_0 : Int) (c0_1 : Int) (c0_2 : Int) (a1 : Int) (a2 : Int) (a3 : Int) (w : World) (w0_0 : (Lit.int .u64 c0_0).wf = true) (w0_1 : (Lit.int .u64 c0_1).wf = true) (w0_2 : (Lit.int .u64 c0_2).wf = true) (w1 : (Lit.int .u64 a1).wf = true) (w2 : (Lit.int .u64 a2).wf = true) (w3 : (Lit.int .u64 a3).wf = true) :
    Calls Try.prog 4 #[.agg #[.int .u64 c0_0, .int .u64 c0_1, .int .u64 c0_2], .int .u64 a1, .int .u64 a2, .int .u64 a3] w fun e w' => e = .returned (.bool true) ∧ Below w.heap.size w w' := by
  have hp : PFit ⟨c0_0, c0_1, c0_2⟩ := ⟨Base.u64_of w0_0, Base.u64_of w0_1, Base.u64_of w0_2⟩
  have hb : U a1 := Base.u64_of w1
  have hn : U a2 := Base.u64_of w2
  have hs : U a3 := Base.u64_of w3
  have CA := fun V => alive_pacer V
  by_cases hlt : a3 < a2
  · go_enter Try.func4, Try.ntmps4
    go_upto_region 1 with fail
    refine at_any ?_
    intro W hW
    obtain ⟨pB, hL⟩ : Blk W w.heap.size #[.int .u64 c0_0, .int .u64 c0_1, .int .u64 c0_2] 24 ∧ Below w.heap.size w W := by
      subst hW
      exact ⟨Blk.new _ _ _, (Below.refl _ _).alloc (Nat.le_refl _) _⟩
    clear hW
    have lt_pB := pB.lt
    have pB_0 : _ = some (Value.int .u64 c0_0) := pB.cell 0
    have pB_1 : _ = some (Value.int .u64 c0_1) := pB.cell 1
    have pB_2 : _ = some (Value.int .u64 c0_2) := pB.cell 2
    go_wp2_with (first
      | (go_at_call 7; (with_reducible refine (CA W).mono ?_); rintro x' y1 ⟨rfl, L1⟩)
      | (go_at_call 7; (with_reducible refine (CA y1).mono ?_); rintro x' y2 ⟨rfl, L2⟩))
    all_goals go_ret
    all_goals exact ⟨rfl, Base.next (Base.next hL L1) L2⟩
  · have C1 : ∀ V, _ := fun V => fill_any ⟨c0_0, c0_1, c0_2⟩ hp a1 a2 hb hn V
    have hf := fit_fill hp hb hn
    have C2 : ∀ V, _ := fun V => fill_any (fillP ⟨c0_0, c0_1, c0_2⟩ a1 a2) hf a1 a3 hb hs V
    have C3 : ∀ V, _ := fun V => fill_any ⟨c0_0, c0_1, c0_2⟩ hp a1 a3 hb hs V
    rw [fill_twice hp hb hn hs (by omega)] at C2
    generalize fillP ⟨c0_0, c0_1, c0_2⟩ a1 a2 = r at *
    generalize fillP ⟨c0_0, c0_1, c0_2⟩ a1 a3 = q at *
    obtain ⟨r0, r1, r2⟩ := r
    obtain ⟨q0, q1, q2⟩ := q
    unfold PcPost pc at C1 C2 C3
    simp only at C1 C2 C3
    go_enter Try.func4, Try.ntmps4
    go_upto_region 1 with fail
    refine at_any ?_
    intro W hW
    obtain ⟨pB, hL⟩ : Blk W w.heap.size #[.int .u64 c0_0, .int .u64 c0_1, .int .u64 c0_2] 24 ∧ Below w.heap.size w W := by
      subst hW
      exact ⟨Blk.new _ _ _, (Below.refl _ _).alloc (Nat.le_refl _) _⟩
    clear hW
    have lt_pB := pB.lt
    have pB_0 : _ = some (Value.int .u64 c0_0) := pB.cell 0
    have pB_1 : _ = some (Value.int .u64 c0_1) := pB.cell 1
    have pB_2 : _ = some (Value.int .u64 c0_2) := pB.cell 2
    go_upto_region 3 with (go_at_call 7; refine (CA W).mono ?_; rintro x' y1 ⟨rfl, L1⟩; replace pB := pB.below L1 lt_pB; replace hL := Base.next hL L1; replace lt_pB := pB.lt; replace pB_0 : _ = some (Value.int .u64 c0_0) := pB.cell 0; replace pB_1 : _ = some (Value.int .u64 c0_1) := pB.cell 1; replace pB_2 : _ = some (Value.int .u64 c0_2) := pB.cell 2)
    refine at_any ?_
    intro Y hY
    obtain ⟨pB', hL'⟩ : Blk Y w.heap.size #[.int .u64 c0_0, .int .u64 c0_1, .int .u64 c0_2] 24 ∧ Below w.heap.size w Y := by
      subst hY
      exact ⟨pB, hL⟩
    clear hY pB hL
    clear lt_pB pB_0 pB_1 pB_2
    have g0 := fun p : In (Lt Y) => inCell p (o := 0) (v := .int .u64 c0_0) (pB'.cell 0)
    have g1 := fun p : In (Lt Y) => inCell p (o := 1) (v := .int .u64 c0_1) (pB'.cell 1)
    have g2 := fun p : In (Lt Y) => inCell p (o := 2) (v := .int .u64 c0_2) (pB'.cell 2)
    refine wp_region_in (Lt Y) (Lt.drew Y) (by kernel_rfl) (by kernel_rfl) ?_
    repeat (go_big_quiet_step (first | (go_at_call 12; (with_reducible refine in_below (v := .agg #[.int .u64 r0, .int .u64 r1, .int .u64 r2]) ?_); with_reducible exact C1 _) | (go_at_call 12; (with_reducible refine in_below (v := .agg #[.int .u64 q0, .int .u64 q1, .int .u64 q2]) ?_); with_reducible exact C2 _) | (go_at_call 12; (with_reducible refine in_below (v := .agg #[.int .u64 q0, .int .u64 q1, .int .u64 q2]) ?_); with_reducible exact C3 _)))
    refine wpQuiet_nil ?_
    rintro u2 ⟨⟨_, hw2⟩, rfl⟩
    have hw2 : Below Y.heap.size Y u2 := hw2
    go_wp2
    go_ret
    exact ⟨rfl, Base.next hL' hw2⟩

set_option maxRecDepth 100000 in
theorem lifted (os : Os) (started : os.Started) (H : Type) (enc : TypeId × Value → H) :
    ReturnsInHanded {} Try.checked os 4 .any (Rows.pacerTwiceSpec.pre6 enc Try.prog Try.f4 Rows.pacerTwiceRow.domain false) (Rows.pacerTwiceSpec.post enc Try.prog Try.f4 false true false false) := by
  refine returnsInHanded_of_change (C := Try.checked) own started (by kernel_rfl) Try.func4
    (ChangeSpec.witness6 (enc := enc) (C := Try.checked) false ⟨#[], #[.agg #[.int .u64 0, .int .u64 0, .int .u64 0], .int .u64 0, .int .u64 0, .int .u64 0], []⟩ 8 (by kernel_rfl) (by kernel_rfl) (by kernel_rfl) (by kernel_rfl)) ?_
  intro W base args ds gs before hval0 hW hcnd _
  have hval : ∀ (j : Nat) t v, Try.f4.params[j]? = some t → args[j]? = some v → Value.okWide Try.prog W .any base t v := hval0
  have hW' := hW
  obtain ⟨p, q, hA0, hV, rfl, hfz, hnd⟩ := hW
  have hA : DataW.TrodAll enc Try.prog W 0 (fun _ => true) true Try.f4.params.toList args.toList ds p := hA0
  rw [Try.params4] at hA hval
  obtain ⟨v0, vs0, d0, ds0, p0, q0, hargs, rfl, rfl, h0, r0⟩ := trodAll_cons hA
  obtain ⟨v1, vs1, d1, ds1, p1, q1, rfl, rfl, rfl, h1, r1⟩ := trodAll_cons r0
  obtain ⟨v2, vs2, d2, ds2, p2, q2, rfl, rfl, rfl, h2, r2⟩ := trodAll_cons r1
  obtain ⟨v3, vs3, d3, ds3, p3, q3, rfl, rfl, rfl, h3, r3⟩ := trodAll_cons r2
  obtain ⟨rfl, rfl, rfl⟩ := trodAll_nil r3
  obtain rfl : args = #[v0, v1, v2, v3] := by cases args; simp_all
  obtain ⟨rfl, rfl⟩ := trodVars_none hV
  have k0 := h0
  have lt0 : ∀ x ∈ p0, x.block < W.heap.size := by obtain ⟨m, hm⟩ := k0; exact DataW.trod_lt m _ _ _ hm
  obtain ⟨cs0, rfl, fl0⟩ := open_flat Try.underlying24 (show leaf Try.prog 6 24 = some [.int .u64, .int .u64, .int .u64] by kernel_rfl) (hval 0 24 v0 rfl rfl) h0
  obtain ⟨c0_0, us0, rfl, w0_0, fl0⟩ := fl0.int_
  obtain ⟨c0_1, us0, rfl, w0_1, fl0⟩ := fl0.int_
  obtain ⟨c0_2, us0, rfl, w0_2, fl0⟩ := fl0.int_
  obtain rfl := fl0.nil_
  obtain ⟨a1, rfl, rfl, rfl, w1⟩ := open_int Try.underlying22 (hval 1 22 v1 rfl rfl) h1
  obtain ⟨a2, rfl, rfl, rfl, w2⟩ := open_int Try.underlying22 (hval 2 22 v2 rfl rfl) h2
  obtain ⟨a3, rfl, rfl, rfl, w3⟩ := open_int Try.underlying22 (hval 3 22 v3 rfl rfl) h3
  clear hA0 hval0
  refine (walk c0_0 c0_1 c0_2 a1 a2 a3 W w0_0 w0_1 w0_2 w1 w2 w3).mono fun e W' ⟨he, bel⟩ => ?_
  subst he
  exact ⟨_, rfl, _, _, _, [], _, [], hW', trodAll_mk1 (shut_bool Try.underlying4 _), (trodAll_cons_mk (Below.trod laidOut (by kernel_rfl) (of_decide_eq_true (by kernel_rfl)) k0 bel lt0) (trodAll_cons_mk (shut_int Try.underlying22 w1) (trodAll_cons_mk (shut_int Try.underlying22 w2) (trodAll_cons_mk (shut_int Try.underlying22 w3) trodAll_mk0)))), rfl, bel.frame _, fun h => by cases h⟩

theorem over : Rows.pacerTwiceRow.holds Try.pinned (OpenSpec.ofChange Rows.pacerTwiceSpec) :=
  OpenClaim.holds_of_wide 4 Try.f4 rfl rfl rfl rfl rfl rfl rfl ⟨rfl, rfl, rfl, rfl, rfl⟩ rfl rfl rfl rfl rfl (by kernel_rfl) Try.func4 (by kernel_rfl)
    (of_decide_eq_true (by kernel_rfl)) (by unfold Func.isWrapper; first | (rw [if_pos (by decide +kernel)]; kernel_rfl) | (rw [if_neg (by decide +kernel)]; exact ⟨rfl, rfl⟩))
    (fun os started H enc _ => lifted os started H enc)

/-- The given statement. -/
theorem proved : Rows.PacerTwiceSaid :=
  over
#print axioms proved
end Go.Proofs.Ytbamdilihpnhjaa.pacerTwice
