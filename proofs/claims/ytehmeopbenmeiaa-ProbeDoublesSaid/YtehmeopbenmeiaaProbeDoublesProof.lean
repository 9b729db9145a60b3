/-
  Each probe is twice as long behind the last one, the most at most. No conditions.
-/
import Derived.Test.YtehmeopbenmeiaaRows
import Derived.Test.YtehmeopbenmeiaaRow
import Derived.WalkKit
import Derived.ProofKit
import Derived.OpenShut
import Derived.ShutString
import Derived.ChangeOld
import Derived.Below
import Derived.Test.YtehmeopbenmeiaaProbeAlive
import Derived.Test.YtehmeopbenmeiaaProbeRow
import Derived.Test.YtehmeopbenmeiaaProbeTwice
namespace Go.Proofs.Ytehmeopbenmeiaa.probeDoubles
open Go.ChangeShapes Go.WideShapes Go.ChangeAt Go.RowKit
open Go.ChangeMaps (open_string shut_string)
open Go.Proofs.Ytehmeopbenmeiaa.Base
set_option linter.unusedVariables false
set_option linter.unusedSimpArgs false

theorem own : ownKnob Try.prog.godebug = none := by kernel_rfl
theorem laidOut : laidOutB Try.prog = true := by kernel_rfl

open Go.Proofs.Ytehmeopbenmeiaa.Probe Go.Proofs.Ytehmeopbenmeiaa.ProbePlain Go.Proofs.Ytehmeopbenmeiaa.Hop
set_option maxHeartbeats 4000000 in
set_option maxRecDepth 20000 in
theorem walk (a0 : Int) (a1 : Int) (a2 : Int) (a3 : Int) (w : World) (w0 : (Lit.int .u32 a0).wf = true) (w1 : (Lit.int .u64 a1).wf = true) (w2 : (Lit.int .u8 a2).wf = true) (w3 : (Lit.int .u32 a3).wf = true) :
    Calls Try.prog 5 #[.int .u32 a0, .int .u64 a1, .int .u8 a2, .int .u32 a3] w fun e w' => e = .returned (.bool true) ∧ Below w.heap.size w w' := by
  obtain ⟨b0, b1⟩ := Base.u32_of w0
  obtain ⟨m0, m1⟩ := Base.u64_of w1
  obtain ⟨n0, n1⟩ := Base.u8_of w2
  obtain ⟨f0, f1⟩ := Base.u32_of w3
  have CA := fun V => alive_probe V
  go_enter Try.func5, Try.ntmps5
  go_upto_region 4 with (go_at_call 7; refine (CA w).mono ?_; rintro e X ⟨rfl, L1⟩)
  refine at_any ?_
  intro W0 hW
  obtain ⟨rB, hL⟩ : Blk W0 X.heap.size #[.int .i64 0, .int .u64 a3] 24 ∧ Below w.heap.size w W0 := by
    subst hW
    exact ⟨Blk.new _ _ _, L1.alloc L1.size _⟩
  have hb : w.heap.size ≤ X.heap.size := L1.size
  clear hW L1 CA
  generalize X.heap.size = b at *
  have hk := Int.toNat_of_nonneg n0
  generalize a2.toNat = nn at hk
  subst hk
  go_wp2_with (refine wpl_value (v := .int .u64 (min a0 a1)) rfl (mn_u64 (.tmp 19) (.tmp 20) _ (n := a0) (m := a1) rfl rfl rfl) ?_)
  go_loopw [10, 11, 12] (fun d i _ wr => ∃ (k : Nat) (C E G : Int), k ≤ nn ∧ i = .int .i64 k ∧ d = .int .u64 E ∧ C = min (k : Int) 60 ∧ E = backoff a0 C a1 ∧ 0 ≤ G ∧ G ≤ 18446744073709551615 ∧ Blk wr b #[.int .i64 C, .int .u64 G] 24 ∧ Below w.heap.size w wr) (fun _ i _ _ => nn - (intOf i).toNat)
  case atStart => exact ⟨0, 0, _, a3, Nat.zero_le _, rfl, rfl, by decide, (backoff_zero (by omega)).symm, f0, by omega, rB, hL⟩
  case round =>
    obtain ⟨k, C, E, G, hkn, rfl, rfl, hC, hE, g0, g1, hB, hM⟩ := hrel
    clear rB hL
    have C0 : 0 ≤ C := by omega
    have C1 : C ≤ 60 := by omega
    obtain ⟨-, E1, E0⟩ := backoff_bd (n := C) b0 (by omega) m0
    rw [← hE] at E0 E1
    have k0 : wr.cell? ⟨b, 0, none⟩ = some (.int .i64 C) := hB.cell 0
    have k1 : wr.cell? ⟨b, 1, none⟩ = some (.int .u64 G) := hB.cell 1
    have hbl := hB.lt
    by_cases hlt : k < nn
    · have hlI : (k : Int) < (nn : Int) := by omega
      have A0 := Sat.add_bd g0 E0
      have fit : PFit ⟨C, G⟩ := ⟨by show _ ≤ C; omega, by show C ≤ _; omega, g0, g1⟩
      have CD := deadline_any ⟨C, G⟩ fit true a0 a1 b0 (by omega) m0 m1 wr
      rw [deadline_fly, ← hE] at CD
      have CS := fun V => Sat.ref_add G E g0 g1 E0 (by omega) V
      have CM := fun V => Sat.ref_mul E 2 E0 (by omega) (by decide) (by decide) V
      have CF := fun V => fired_any ⟨C, G⟩ fit (Sat.add G E) A0.1 A0.2 V
      have hf : firedP ⟨C, G⟩ (Sat.add G E) = ⟨min ((k : Int) + 1) 60, Sat.add G E⟩ := by
        unfold firedP
        rw [show min (max C 0) 59 + 1 = min ((k : Int) + 1) 60 from by omega]
      rw [hf] at CF
      clear hf
      have hm : k < 60 → min (Sat.mul E 2) a1 = backoff a0 (min ((k : Int) + 1) 60) a1 := fun h => by
        rw [hE, show C = (k : Int) from by omega, backoff_next b0 m0 m1, show min ((k : Int) + 1) 60 = (k : Int) + 1 from by omega]
      have hs : 60 ≤ k → E = backoff a0 (min ((k : Int) + 1) 60) a1 := fun h => by
        rw [hE, show C = 60 from by omega, show min ((k : Int) + 1) 60 = 60 from by omega]
      clear hE hC
      generalize Sat.add G E = A at *
      generalize Sat.mul E 2 = M at *
      by_cases h60 : k < 60
      · have h60I : (k : Int) < 60 := by omega
        go_upto_region 14 with (first
        | (go_at_call 8; refine CD.mono ?_; rintro e y1 ⟨rfl, L2⟩; have j1 := keepCell L2 k1; have j0 := keepCell L2 k0; have s2 := L2.size)
        | (go_at_call 14; refine (CS _).mono ?_; rintro e y2 ⟨rfl, rfl⟩)
        | (go_at_call 15; refine (CM _).mono ?_; rintro e y4 ⟨rfl, rfl⟩)
        | (refine wpl_value (v := .int .u64 (min M a1)) rfl (mn_u64 (.tmp 42) (.tmp 43) _ (n := M) (m := a1) rfl rfl rfl) ?_)
        | (go_at_call 10; refine (CF _).mono ?_; rintro e y3 ⟨rfl, L3⟩; have hR := (hB.below L2 hB.lt).below L3 (Nat.lt_of_lt_of_le hB.lt L2.size))
        | (refine wpl_store_row rfl 24 (.tmp 9) (.tmp 47) rfl hR #[.int .i64 (min ((k : Int) + 1) 60), .int .u64 A] rfl rfl (by kernel_rfl) rfl (by simp [Value.oneCell']) ?_))
        refine at_any ?_
        intro Z hZ
        obtain ⟨rZ, hN⟩ : Blk Z b #[.int .i64 (min ((k : Int) + 1) 60), .int .u64 A] 24 ∧ Below w.heap.size w Z := by
          subst hZ
          exact ⟨hR.setRow _, below_setRow' (Base.next (Base.next hM L2) L3) hb⟩
        clear hZ hR hB L2 L3
        have z0 : Z.cell? ⟨b, 0, none⟩ = some (.int .i64 (min ((k : Int) + 1) 60)) := rZ.cell 0
        go_wp2_with (refine wpl_value (v := .int .i64 (min ((k : Int) + 1) 60)) rfl (mn_i64 (.tmp 51) _ _ (n := (k : Int) + 1) (m := 60) rfl rfl rfl) ?_)
        all_goals go_roundw
        case rel => exact ⟨k + 1, min ((k : Int) + 1) 60, _, A, by omega, by go_num, rfl, by omega, by first | exact hm h60 | exact rfl, A0.1, A0.2, rZ, hN⟩
        case measure => simp only [intOf]; omega
      · have h60I : ¬ (k : Int) < 60 := by omega
        go_upto_region 14 with (first
        | (go_at_call 8; refine CD.mono ?_; rintro e y1 ⟨rfl, L2⟩; have j1 := keepCell L2 k1; have j0 := keepCell L2 k0; have s2 := L2.size)
        | (go_at_call 14; refine (CS _).mono ?_; rintro e y2 ⟨rfl, rfl⟩)
        | (go_at_call 10; refine (CF _).mono ?_; rintro e y3 ⟨rfl, L3⟩; have hR := (hB.below L2 hB.lt).below L3 (Nat.lt_of_lt_of_le hB.lt L2.size))
        | (refine wpl_store_row rfl 24 (.tmp 9) (.tmp 47) rfl hR #[.int .i64 (min ((k : Int) + 1) 60), .int .u64 A] rfl rfl (by kernel_rfl) rfl (by simp [Value.oneCell']) ?_))
        refine at_any ?_
        intro Z hZ
        obtain ⟨rZ, hN⟩ : Blk Z b #[.int .i64 (min ((k : Int) + 1) 60), .int .u64 A] 24 ∧ Below w.heap.size w Z := by
          subst hZ
          exact ⟨hR.setRow _, below_setRow' (Base.next (Base.next hM L2) L3) hb⟩
        clear hZ hR hB L2 L3
        have z0 : Z.cell? ⟨b, 0, none⟩ = some (.int .i64 (min ((k : Int) + 1) 60)) := rZ.cell 0
        go_wp2_with (refine wpl_value (v := .int .i64 (min ((k : Int) + 1) 60)) rfl (mn_i64 (.tmp 51) _ _ (n := (k : Int) + 1) (m := 60) rfl rfl rfl) ?_)
        all_goals go_roundw
        case rel => exact ⟨k + 1, min ((k : Int) + 1) 60, _, A, by omega, by go_num, rfl, by omega, hs (by omega), A0.1, A0.2, rZ, hN⟩
        case measure => simp only [intOf]; omega
    · have hlI : ¬ (k : Int) < (nn : Int) := by omega
      go_wp2
      all_goals go_ret
      all_goals exact ⟨rfl, hM⟩

set_option maxRecDepth 100000 in
theorem lifted (os : Os) (started : os.Started) (H : Type) (enc : TypeId × Value → H) :
    ReturnsInHanded {} Try.checked os 5 .any (Rows.probeDoublesSpec.pre6 enc Try.prog Try.f5 Rows.probeDoublesRow.domain false) (Rows.probeDoublesSpec.post enc Try.prog Try.f5 false true false false) := by
  refine returnsInHanded_of_change (C := Try.checked) own started (by kernel_rfl) Try.func5
    (ChangeSpec.witness6 (enc := enc) (C := Try.checked) false ⟨#[], #[.int .u32 0, .int .u64 0, .int .u8 0, .int .u32 0], []⟩ 8 (by kernel_rfl) (by kernel_rfl) (by kernel_rfl) (by kernel_rfl)) ?_
  intro W base args ds gs before hval0 hW hcnd _
  have hval : ∀ (j : Nat) t v, Try.f5.params[j]? = some t → args[j]? = some v → Value.okWide Try.prog W .any base t v := hval0
  have hW' := hW
  obtain ⟨p, q, hA0, hV, rfl, hfz, hnd⟩ := hW
  have hA : DataW.TrodAll enc Try.prog W 0 (fun _ => true) true Try.f5.params.toList args.toList ds p := hA0
  rw [Try.params5] at hA hval
  obtain ⟨v0, vs0, d0, ds0, p0, q0, hargs, rfl, rfl, h0, r0⟩ := trodAll_cons hA
  obtain ⟨v1, vs1, d1, ds1, p1, q1, rfl, rfl, rfl, h1, r1⟩ := trodAll_cons r0
  obtain ⟨v2, vs2, d2, ds2, p2, q2, rfl, rfl, rfl, h2, r2⟩ := trodAll_cons r1
  obtain ⟨v3, vs3, d3, ds3, p3, q3, rfl, rfl, rfl, h3, r3⟩ := trodAll_cons r2
  obtain ⟨rfl, rfl, rfl⟩ := trodAll_nil r3
  obtain rfl : args = #[v0, v1, v2, v3] := by cases args; simp_all
  obtain ⟨rfl, rfl⟩ := trodVars_none hV
  obtain ⟨a0, rfl, rfl, rfl, w0⟩ := open_int Try.underlying30 (hval 0 30 v0 rfl rfl) h0
  obtain ⟨a1, rfl, rfl, rfl, w1⟩ := open_int Try.underlying22 (hval 1 22 v1 rfl rfl) h1
  obtain ⟨a2, rfl, rfl, rfl, w2⟩ := open_int Try.underlying5 (hval 2 5 v2 rfl rfl) h2
  obtain ⟨a3, rfl, rfl, rfl, w3⟩ := open_int Try.underlying30 (hval 3 30 v3 rfl rfl) h3
  clear hA0 hval0
  refine (walk a0 a1 a2 a3 W w0 w1 w2 w3).mono fun e W' ⟨he, bel⟩ => ?_
  subst he
  exact ⟨_, rfl, _, _, _, [], _, [], hW', trodAll_mk1 (shut_bool Try.underlying4 _), (trodAll_cons_mk (shut_int Try.underlying30 w0) (trodAll_cons_mk (shut_int Try.underlying22 w1) (trodAll_cons_mk (shut_int Try.underlying5 w2) (trodAll_cons_mk (shut_int Try.underlying30 w3) trodAll_mk0)))), rfl, bel.frame _, fun h => by cases h⟩

theorem over : Rows.probeDoublesRow.holds Try.pinned (OpenSpec.ofChange Rows.probeDoublesSpec) :=
  OpenClaim.holds_of_wide 5 Try.f5 rfl rfl rfl rfl rfl rfl rfl ⟨rfl, rfl, rfl, rfl, rfl⟩ rfl rfl rfl rfl rfl (by kernel_rfl) Try.func5 (by kernel_rfl)
    (of_decide_eq_true (by kernel_rfl)) (by unfold Func.isWrapper; first | (rw [if_pos (by decide +kernel)]; kernel_rfl) | (rw [if_neg (by decide +kernel)]; exact ⟨rfl, rfl⟩))
    (fun os started H enc _ => lifted os started H enc)

/-- The given statement. -/
theorem proved : Rows.ProbeDoublesSaid :=
  over
#print axioms proved
end Go.Proofs.Ytehmeopbenmeiaa.probeDoubles
