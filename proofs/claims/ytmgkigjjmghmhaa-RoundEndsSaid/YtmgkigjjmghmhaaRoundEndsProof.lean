/-
  Behind a round's beginning its own packet is fresh no more, nor any lesser one. No conditions.
-/
import Derived.Test.YtmgkigjjmghmhaaRoundRow
import Derived.Test.YtmgkigjjmghmhaaRows
import Derived.Test.YtmgkigjjmghmhaaRow
import Derived.WalkKit
import Derived.ProofKit
import Derived.OpenShut
import Derived.ShutString
import Derived.ChangeOld
import Derived.Below
import Derived.Test.YtmgkigjjmghmhaaRoundAlive
import Derived.Test.YtmgkigjjmghmhaaRoundRow
namespace Go.Proofs.Ytmgkigjjmghmhaa.roundEnds
open Go.ChangeShapes Go.WideShapes Go.ChangeAt Go.RowKit
open Go.ChangeMaps (open_string shut_string)
open Go.Proofs.Ytmgkigjjmghmhaa.Base Go.Proofs.Ytmgkigjjmghmhaa.Round Go.Proofs.Ytmgkigjjmghmhaa.RoundPlain
set_option linter.unusedVariables false
set_option linter.unusedSimpArgs false

theorem own : ownKnob Try.prog.godebug = none := by kernel_rfl
theorem laidOut : laidOutB Try.prog = true := by kernel_rfl

open Go.Proofs.Ytmgkigjjmghmhaa.Round Go.Proofs.Ytmgkigjjmghmhaa.RoundPlain Go.Proofs.Ytmgkigjjmghmhaa.Hop
set_option maxHeartbeats 4000000 in
set_option maxRecDepth 20000 in
theorem walk (x0 : Rd) (a1 : Int) (a2 : Int) (a3 : Int) (w : World) (f0 : DFit x0) (w1 : (Lit.int .u64 a1).wf = true) (w2 : (Lit.int .u64 a2).wf = true) (w3 : (Lit.int .u64 a3).wf = true) :
    Calls Try.prog 5 #[.agg #[.int .u64 x0.end_, .int .u64 x0.cuts], .int .u64 a1, .int .u64 a2, .int .u64 a3] w fun e w' => e = .returned (.bool true) ∧ Below w.heap.size w w' := by
  obtain ⟨b0, b1⟩ := Base.u64_of w1
  obtain ⟨d0, d1⟩ := Base.u64_of w2
  obtain ⟨n0, n1⟩ := Base.u64_of w3
  by_cases hT : a1 = 18446744073709551615
  · subst hT
    have CA := fun V => alive_round V
    go_enter Try.func5, Try.ntmps5
    go_upto_region 1 with fail
    refine at_any ?_
    intro W0 hW
    obtain ⟨rB, hL⟩ : Blk W0 w.heap.size #[.int .u64 x0.end_, .int .u64 x0.cuts] 24 ∧ Below w.heap.size w W0 := by
      subst hW
      exact ⟨Blk.new _ _ _, (Below.refl _ _).alloc (Nat.le_refl _) _⟩
    clear hW
    go_wp2_with (first
      | (go_at_call 6; (with_reducible refine (CA W0).mono ?_); rintro e X ⟨rfl, L1⟩)
      | (go_at_call 6; (with_reducible refine (CA X).mono ?_); rintro e X2 ⟨rfl, L2⟩))
    all_goals go_ret
    all_goals exact ⟨rfl, Base.next (Base.next hL L1) L2⟩
  · by_cases hf : x0.end_ ≤ a1
    · have C1 := fun V => begin_any x0 f0 a1 a2 b0 b1 d0 d1 V
      obtain ⟨qe, qc, hq⟩ : ∃ qe qc, beginP x0 a1 a2 = ⟨qe, qc⟩ := ⟨_, _, rfl⟩
      have fq := fit_begin f0 b0 d0 d1 (pn := a1) (next := a2)
      have hE : qe = if a2 ≤ a1 then a1 + 1 else a2 := by
        have h := begin_yes (r := x0) (next := a2) hf
        rw [hq] at h
        injection h with h _
        rw [h, endP, Sat.add, if_pos (show a1 + 1 ≤ 18446744073709551615 by omega)]
      have hlo : a1 < qe := by rw [hE]; split <;> omega
      have hle : qe ≤ a2 ∨ qe ≤ a1 + 1 := by rw [hE]; split <;> omega
      have h21 : a2 ≤ qe := by rw [hE]; split <;> omega
      clear hE
      rw [hq] at C1 fq
      rw [show freshP x0 a1 = true from decide_eq_true hf] at C1
      have C2 := fun V => begin_any ⟨qe, qc⟩ fq a1 a2 b0 b1 d0 d1 V
      rw [begin_no (r := ⟨qe, qc⟩) (show ¬ qe ≤ a1 by omega), show freshP ⟨qe, qc⟩ a1 = false from decide_eq_false (show ¬ qe ≤ a1 by omega)] at C2
      have CN : ∀ z : Int, 0 ≤ z → z ≤ a1 → ∀ V, Calls Try.prog 9 #[.agg #[.int .u64 qe, .int .u64 qc], .int .u64 z] V fun x w' => x = .returned (.bool false) ∧ Below V.heap.size V w' := fun z z0 z1 V => by
        have h := fresh_any ⟨qe, qc⟩ fq z z0 (by omega) V
        rwa [show freshP ⟨qe, qc⟩ z = false from decide_eq_false (show ¬ qe ≤ z by omega)] at h
      have CY : ∀ z : Int, 0 ≤ z → z ≤ 18446744073709551615 → qe ≤ z → ∀ V, Calls Try.prog 9 #[.agg #[.int .u64 qe, .int .u64 qc], .int .u64 z] V fun x w' => x = .returned (.bool true) ∧ Below V.heap.size V w' := fun z z0 z1 z2 V => by
        have h := fresh_any ⟨qe, qc⟩ fq z z0 z1 V
        rwa [show freshP ⟨qe, qc⟩ z = true from decide_eq_true (show qe ≤ z from z2)] at h
      have hup : x0.end_ < qe := by omega
      simp only at C1 C2
      clear hq
      have CA := fun V => alive_round V
      go_enter Try.func5, Try.ntmps5
      go_upto_region 1 with fail
      refine at_any ?_
      intro W0 hW
      obtain ⟨rB, hL⟩ : Blk W0 w.heap.size #[.int .u64 x0.end_, .int .u64 x0.cuts] 24 ∧ Below w.heap.size w W0 := by
        subst hW
        exact ⟨Blk.new _ _ _, (Below.refl _ _).alloc (Nat.le_refl _) _⟩
      clear hW
      go_upto_region 3 with (go_at_call 6; refine (CA W0).mono ?_; rintro e X ⟨rfl, L1⟩)
      have rxb := rB.below L1 rB.lt
      have hM := Base.next hL L1
      clear rB hL L1 CA
      have k0 : X.cell? ⟨w.heap.size, 0, none⟩ = some (.int .u64 x0.end_) := rxb.cell 0
      have k1 : X.cell? ⟨w.heap.size, 1, none⟩ = some (.int .u64 x0.cuts) := rxb.cell 1
      have lxb := rxb.lt
      go_upto_region 4 with (go_at_call 7; refine (C1 X).mono ?_; rintro e y ⟨rfl, L2⟩)
      refine at_any ?_
      intro Y hW
      obtain ⟨rsb, qxb, hN⟩ : Blk Y y.heap.size #[.int .u64 qe, .int .u64 qc] 24 ∧ Blk Y w.heap.size #[.int .u64 x0.end_, .int .u64 x0.cuts] 24 ∧ Below w.heap.size w Y := by
        subst hW
        exact ⟨Blk.new _ _ _, (rxb.below L2 rxb.lt).alloc _, (Base.next hM L2).alloc (Base.next hM L2).size _⟩
      clear hW L2 hM rxb lxb k0 k1
      generalize y.heap.size = sb at *
      have hM := hN
      clear hN
      have rxb := qxb
      clear qxb
      have k0 : Y.cell? ⟨w.heap.size, 0, none⟩ = some (.int .u64 x0.end_) := rxb.cell 0
      have k1 : Y.cell? ⟨w.heap.size, 1, none⟩ = some (.int .u64 x0.cuts) := rxb.cell 1
      have lxb := rxb.lt
      have k2 : Y.cell? ⟨sb, 0, none⟩ = some (.int .u64 qe) := rsb.cell 0
      have k3 : Y.cell? ⟨sb, 1, none⟩ = some (.int .u64 qc) := rsb.cell 1
      have lsb := rsb.lt
      go_upto_region 7 with (go_at_call 7; refine (C2 Y).mono ?_; rintro e y ⟨rfl, L2⟩)
      refine at_any ?_
      intro Z hW
      obtain ⟨rtb, qxb, qsb, hN⟩ : Blk Z y.heap.size #[.int .u64 qe, .int .u64 qc] 24 ∧ Blk Z w.heap.size #[.int .u64 x0.end_, .int .u64 x0.cuts] 24 ∧ Blk Z sb #[.int .u64 qe, .int .u64 qc] 24 ∧ Below w.heap.size w Z := by
        subst hW
        exact ⟨Blk.new _ _ _, (rxb.below L2 rxb.lt).alloc _, (rsb.below L2 rsb.lt).alloc _, (Base.next hM L2).alloc (Base.next hM L2).size _⟩
      clear hW L2 hM rxb lxb rsb lsb k0 k1 k2 k3
      generalize y.heap.size = tb at *
      have hM := hN
      clear hN
      have rxb := qxb
      clear qxb
      have rsb := qsb
      clear qsb
      have k0 : Z.cell? ⟨w.heap.size, 0, none⟩ = some (.int .u64 x0.end_) := rxb.cell 0
      have k1 : Z.cell? ⟨w.heap.size, 1, none⟩ = some (.int .u64 x0.cuts) := rxb.cell 1
      have lxb := rxb.lt
      have k2 : Z.cell? ⟨sb, 0, none⟩ = some (.int .u64 qe) := rsb.cell 0
      have k3 : Z.cell? ⟨sb, 1, none⟩ = some (.int .u64 qc) := rsb.cell 1
      have lsb := rsb.lt
      have k4 : Z.cell? ⟨tb, 0, none⟩ = some (.int .u64 qe) := rtb.cell 0
      have k5 : Z.cell? ⟨tb, 1, none⟩ = some (.int .u64 qc) := rtb.cell 1
      have ltb := rtb.lt
      go_wp2_with (first
        | (go_at_call 9; (with_reducible refine (CN a1 b0 (by omega) Z).mono ?_); rintro e y3 ⟨rfl, L3⟩; have j0 := keepCell L3 k0; have j1 := keepCell L3 k1; have j2 := keepCell L3 k2; have j3 := keepCell L3 k3; have s3 := L3.size)
        | (go_at_call 9; (with_reducible refine (CN a1 b0 (by omega) y3).mono ?_); rintro e y4 ⟨rfl, L4⟩; have i0 := keepCell L4 j0; have i1 := keepCell L4 j1; have i2 := keepCell L4 j2; have i3 := keepCell L4 j3; have s4 := L4.size)
        | (go_at_call 9; (with_reducible refine (CN a3 n0 (by omega) y3).mono ?_); rintro e y4 ⟨rfl, L4⟩; have i0 := keepCell L4 j0; have i1 := keepCell L4 j1; have i2 := keepCell L4 j2; have i3 := keepCell L4 j3; have s4 := L4.size)
        | (go_at_call 9; (with_reducible refine (CY a2 d0 d1 (by omega) y4).mono ?_); rintro e y5 ⟨rfl, L5⟩; have u0 := keepCell L5 i0; have u1 := keepCell L5 i1; have u2 := keepCell L5 i2; have u3 := keepCell L5 i3)
        | (go_at_call 9; (with_reducible refine (CY (a1 + 1) (by omega) (by omega) (by omega) y4).mono ?_); rintro e y5 ⟨rfl, L5⟩; have u0 := keepCell L5 i0; have u1 := keepCell L5 i1; have u2 := keepCell L5 i2; have u3 := keepCell L5 i3))
      all_goals go_ret
      all_goals exact ⟨rfl, Base.next (Base.next (Base.next hM L3) L4) L5⟩
    · have C1 := fun V => begin_any x0 f0 a1 a2 b0 b1 d0 d1 V
      have C3 := fun V => fresh_any x0 f0 a1 b0 b1 V
      rw [begin_no hf, show freshP x0 a1 = false from decide_eq_false hf] at C1
      rw [show freshP x0 a1 = false from decide_eq_false hf] at C3
      have CA := fun V => alive_round V
      go_enter Try.func5, Try.ntmps5
      go_upto_region 1 with fail
      refine at_any ?_
      intro W0 hW
      obtain ⟨rB, hL⟩ : Blk W0 w.heap.size #[.int .u64 x0.end_, .int .u64 x0.cuts] 24 ∧ Below w.heap.size w W0 := by
        subst hW
        exact ⟨Blk.new _ _ _, (Below.refl _ _).alloc (Nat.le_refl _) _⟩
      clear hW
      go_upto_region 3 with (go_at_call 6; refine (CA W0).mono ?_; rintro e X ⟨rfl, L1⟩)
      have rxb := rB.below L1 rB.lt
      have hM := Base.next hL L1
      clear rB hL L1 CA
      have k0 : X.cell? ⟨w.heap.size, 0, none⟩ = some (.int .u64 x0.end_) := rxb.cell 0
      have k1 : X.cell? ⟨w.heap.size, 1, none⟩ = some (.int .u64 x0.cuts) := rxb.cell 1
      have lxb := rxb.lt
      go_upto_region 4 with (go_at_call 7; refine (C1 X).mono ?_; rintro e y ⟨rfl, L2⟩)
      refine at_any ?_
      intro Y hW
      obtain ⟨rsb, qxb, hN⟩ : Blk Y y.heap.size #[.int .u64 x0.end_, .int .u64 x0.cuts] 24 ∧ Blk Y w.heap.size #[.int .u64 x0.end_, .int .u64 x0.cuts] 24 ∧ Below w.heap.size w Y := by
        subst hW
        exact ⟨Blk.new _ _ _, (rxb.below L2 rxb.lt).alloc _, (Base.next hM L2).alloc (Base.next hM L2).size _⟩
      clear hW L2 hM rxb lxb k0 k1
      generalize y.heap.size = sb at *
      have hM := hN
      clear hN
      have rxb := qxb
      clear qxb
      have k0 : Y.cell? ⟨w.heap.size, 0, none⟩ = some (.int .u64 x0.end_) := rxb.cell 0
      have k1 : Y.cell? ⟨w.heap.size, 1, none⟩ = some (.int .u64 x0.cuts) := rxb.cell 1
      have lxb := rxb.lt
      have k2 : Y.cell? ⟨sb, 0, none⟩ = some (.int .u64 x0.end_) := rsb.cell 0
      have k3 : Y.cell? ⟨sb, 1, none⟩ = some (.int .u64 x0.cuts) := rsb.cell 1
      have lsb := rsb.lt
      go_wp2_with (first
        | (refine wpl_value (v := .bool true) rfl (eq_rd (.tmp 29) (.tmp 30) rfl (a := x0.end_) (b := x0.cuts) rfl rfl) ?_)
        | (go_at_call 9; refine (C3 _).mono ?_; rintro e y3 ⟨rfl, L3⟩))
      all_goals go_ret
      all_goals exact ⟨rfl, Base.next hM L3⟩

set_option maxRecDepth 100000 in
theorem lifted (os : Os) (started : os.Started) (H : Type) (enc : TypeId × Value → H) :
    ReturnsInHanded {} Try.checked os 5 .any (Rows.roundEndsSpec.pre6 enc Try.prog Try.f5 Rows.roundEndsRow.domain false) (Rows.roundEndsSpec.post enc Try.prog Try.f5 false true false false) := by
  refine returnsInHanded_of_change (C := Try.checked) own started (by kernel_rfl) Try.func5
    (ChangeSpec.witness6 (enc := enc) (C := Try.checked) false ⟨#[], #[.agg #[.int .u64 0, .int .u64 0], .int .u64 0, .int .u64 0, .int .u64 0], []⟩ 8 (by kernel_rfl) (by kernel_rfl) (by kernel_rfl) (by kernel_rfl)) ?_
  intro W base args ds gs before hval0 hW hcnd _
  have hval : ∀ (j : Nat) t v, Try.f5.params[j]? = some t → args[j]? = some v → Value.okWide Try.prog W .any base t v := hval0
  have hW' := hW
  obtain ⟨p, q, hA0, hV, rfl, hfz, hnd⟩ := hW
  have hA : DataW.TrodAll enc Try.prog W 0 (fun _ => true) true Try.f5.params.toList args.toList ds p := hA0
  rw [Try.params5] at hA hval
  obtain ⟨v0, vs0, d0, ds0, p0, q0, hargs, rfl, rfl, h0, r0⟩ := trodAll_cons hA
  obtain ⟨v1, vs1, d1, ds1, p1, q1, rfl, rfl, rfl, h1, r1⟩ := trodAll_cons r0
  obtain ⟨v2, vs2, d2, ds2, p2, q2, rfl, rfl, rfl, h2, r2⟩ := trodAll_cons r1
  obtain ⟨v3, vs3, d3, ds3, p3, q3, rfl, rfl, rfl, h3, r3⟩ := trodAll_cons r2
  obtain ⟨rfl, rfl, rfl⟩ := trodAll_nil r3
  obtain rfl : args = #[v0, v1, v2, v3] := by cases args; simp_all
  obtain ⟨rfl, rfl⟩ := trodVars_none hV
  have k0 := h0
  have lt0 : ∀ x ∈ p0, x.block < W.heap.size := by obtain ⟨m, hm⟩ := k0; exact DataW.trod_lt m _ _ _ hm
  obtain ⟨x0, rfl, f0⟩ := open_round Try.underlying24 (by kernel_rfl) (by kernel_rfl) Try.underlying22 Try.underlying22 (hval 0 24 v0 rfl rfl) h0
  obtain ⟨a1, rfl, rfl, rfl, w1⟩ := open_int Try.underlying22 (hval 1 22 v1 rfl rfl) h1
  obtain ⟨a2, rfl, rfl, rfl, w2⟩ := open_int Try.underlying22 (hval 2 22 v2 rfl rfl) h2
  obtain ⟨a3, rfl, rfl, rfl, w3⟩ := open_int Try.underlying22 (hval 3 22 v3 rfl rfl) h3
  clear hA0 hval0
  refine (walk x0 a1 a2 a3 W f0 w1 w2 w3).mono fun e W' ⟨he, bel⟩ => ?_
  subst he
  exact ⟨_, rfl, _, _, _, [], _, [], hW', trodAll_mk1 (shut_bool Try.underlying4 _), (trodAll_cons_mk (Below.trod laidOut (by kernel_rfl) (of_decide_eq_true (by kernel_rfl)) k0 bel lt0) (trodAll_cons_mk (shut_int Try.underlying22 w1) (trodAll_cons_mk (shut_int Try.underlying22 w2) (trodAll_cons_mk (shut_int Try.underlying22 w3) trodAll_mk0)))), rfl, bel.frame _, fun h => by cases h⟩

theorem over : Rows.roundEndsRow.holds Try.pinned (OpenSpec.ofChange Rows.roundEndsSpec) :=
  OpenClaim.holds_of_wide 5 Try.f5 rfl rfl rfl rfl rfl rfl rfl ⟨rfl, rfl, rfl, rfl, rfl⟩ rfl rfl rfl rfl rfl (by kernel_rfl) Try.func5 (by kernel_rfl)
    (of_decide_eq_true (by kernel_rfl)) (by unfold Func.isWrapper; first | (rw [if_pos (by decide +kernel)]; kernel_rfl) | (rw [if_neg (by decide +kernel)]; exact ⟨rfl, rfl⟩))
    (fun os started H enc _ => lifted os started H enc)

/-- The given statement. -/
theorem proved : Rows.RoundEndsSaid :=
  over
#print axioms proved
end Go.Proofs.Ytmgkigjjmghmhaa.roundEnds
