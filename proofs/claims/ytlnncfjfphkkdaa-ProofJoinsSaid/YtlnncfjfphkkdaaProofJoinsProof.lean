/-
  The sums of two rows that have nothing in common come to that of both. No conditions.
-/
import Derived.Test.YtlnncfjfphkkdaaM1
import Derived.Test.YtlnncfjfphkkdaaRows
import Derived.Test.YtlnncfjfphkkdaaRow
import Derived.WalkKit
import Derived.ProofKit
import Derived.OpenShut
import Derived.ShutString
import Derived.ChangeOld
import Derived.Below
import Derived.Test.YtlnncfjfphkkdaaProofAlive
import Derived.Test.YtlnncfjfphkkdaaProofSeen
import Derived.Test.YtlnncfjfphkkdaaM9
import Derived.Test.YtlnncfjfphkkdaaTail2
import Derived.Test.YtlnncfjfphkkdaaJoinPlain
import Derived.Test.YtlnncfjfphkkdaaSpanRef2
namespace Go.Proofs.Ytlnncfjfphkkdaa.proofJoins
open Go.ChangeShapes Go.WideShapes Go.ChangeAt Go.RowKit
open Go.ChangeMaps (open_string shut_string)
open Go.Proofs.Ytlnncfjfphkkdaa.Base
set_option linter.unusedVariables false
set_option linter.unusedSimpArgs false

theorem own : ownKnob Try.prog.godebug = none := by kernel_rfl
theorem laidOut : laidOutB Try.prog = true := by kernel_rfl

open Go.Proofs.Ytlnncfjfphkkdaa.Led Go.Proofs.Ytlnncfjfphkkdaa.LedPlain Go.Proofs.Ytlnncfjfphkkdaa.SpanPlain Go.Proofs.Ytlnncfjfphkkdaa.SpanRef
open Go.Proofs.Ytlnncfjfphkkdaa.AckPlain (K)
set_option maxHeartbeats 4000000 in
theorem walk (a0 : Int) (a1 : Option Addr) (len1 cap1 : Nat) (z1 : List Dd) (a2 : Int) (a3 : Int) (a4 : Int) (w : World) (w0 : (Lit.int .u8 a0).wf = true) (w1 : Deeds w a1 z1) (n1 : z1.length = len1) (m1 : len1 ≤ cap1) (o1 : cap1 ≤ maxLen) (f1 : ∀ d ∈ z1, Fit d) (w2 : (Lit.int .u8 a2).wf = true) (w3 : (Lit.int .u8 a3).wf = true) (w4 : (Lit.int .u8 a4).wf = true) :
    Calls Try.prog 6 #[.int .u8 a0, .slice a1 len1 cap1, .int .u8 a2, .int .u8 a3, .int .u8 a4] w fun e w' => e = .returned (.bool true) ∧ Below w.heap.size w w' := by
  obtain ⟨p0, p1⟩ := Base.u8_of w0
  obtain ⟨r0, r1⟩ := Base.u8_of w2
  obtain ⟨s0, s1⟩ := Base.u8_of w3
  obtain ⟨x0, x1⟩ := Base.u8_of w4
  subst n1
  have hB := Below.refl w.heap.size w
  have CM := make_any (a0 % 40) 4611686018427387903 (by omega) (by omega) (by decide) (by decide) a1 z1.length cap1 z1 w rfl m1 o1 f1 w1
  have CA := fun U => alive_proof U
  have hgl := made_len (a0 % 40) 4611686018427387903 z1
  have hrg := made_ring (a0 % 40) 4611686018427387903 z1
  have hOk : ∀ S w' a b, Pair S w' a b (madeG (a0 % 40) 4611686018427387903 z1) → Ok (madeG (a0 % 40) 4611686018427387903 z1) := fun _ _ _ _ h => h.ok
  generalize madeG (a0 % 40) 4611686018427387903 z1 = g at *
  go_enter Try.func6, Try.ntmps6
  go_upto_region 4 with (first
    | (go_at_call 8; refine CM.mono ?_; rintro e u1 ⟨a, b, S, rfl, P1, hS, L1⟩; have hOK := hOk _ _ _ _ P1; have hM := hB.trans (L1.mono hB.size); have M1 := hM.alloc hM.size (.cells #[.pointer (some a), .pointer (some ⟨b, 0, none⟩)] 27); have T1 := Blk.new u1 #[.pointer (some a), .pointer (some ⟨b, 0, none⟩)] 27; have LA := (Below.refl u1.heap.size u1).alloc (Nat.le_refl _) (.cells #[.pointer (some a), .pointer (some ⟨b, 0, none⟩)] 27); replace P1 := P1.below LA; clear CM hOk)
    | (go_at_call 9; (with_reducible refine (CA _).mono ?_); rintro e u2 ⟨rfl, L2⟩; have M2 := M1.trans (L2.mono M1.size); have T2 := T1.below L2 T1.lt; have P2 := P1.below L2; clear CA T1 P1))
  have hr : g.ring ≤ 40 := by rw [hrg]; omega
  have hlow := low_le g
  have hnl : (g.l.length : Int) ≤ 80 := by omega
  clear hrg L1 L2 LA hM M1 w1 hB
  have d2 : u2.cell? ⟨u1.heap.size, 0, none⟩ = some (.pointer (some a)) := T2.cell 0
  have e2 : u2.cell? ⟨u1.heap.size, 1, none⟩ = some (.pointer (some ⟨b, 0, none⟩)) := T2.cell 1
  have q0 := fun v : In (Lt u2) => inCell v d2
  have q1 := fun v : In (Lt u2) => inCell v e2
  have CL := fun v : In (Lt u2) => ref_low (P2.below v.h).rf
  generalize hlw : (lowN g : Int) = low at CL
  refine wp_region_rest (C := fun w' => ∃ p : In (Lt u2), w' = p.w) 11 6 (by kernel_rfl) (by kernel_rfl) (by kernel_rfl) (by kernel_rfl) (by kernel_rfl) ⟨⟨u2.drew, Lt.drew u2⟩, rfl⟩ ?_
  simp only [List.take_succ_cons, List.take_zero]
  repeat (go_big_quiet_step ((go_at_call 17; refine in_below (v := .int .u64 low) ?_; exact CL _)))
  refine wpQuiet_nil ?_
  rintro X ⟨⟨_, hX⟩, rfl⟩
  have hX : Below u2.heap.size u2 X := hX
  have P3 := P2.below hX
  have T3 := T2.below hX T2.lt
  have M3 := Base.next M2 hX
  clear q0 q1 CL d2 e2 P2 T2 M2 hX
  have CS := seen_any (a := a) P3.rf (by omega) (low + a2 % 8) (a3 % 40) (by omega) (by omega)
  have hSe := seen_is hOK (low + a2 % 8) (a3 % 40)
  generalize seenG g (low + a2 % 8) (a3 % 40) = se at CS hSe
  obtain ⟨cl, mk⟩ := se
  simp only at CS hSe
  refine wpAny_of_held (S := fun _ => True) _ _ _ _ ?_
  refine held_call (i := 11) (f := 16) (args := #[.agg #[.pointer (some a), .pointer (some ⟨b, 0, none⟩)], .int .u64 ((low + a2 % 8)), .int .i64 ((a3 % 40))]) rfl (by kernel_rfl) (by kernel_rfl) (enter3 (.tmp 42) (.tmp 49) (.tmp 52) _ rfl (by kernel_rfl) (by kernel_rfl) (by kernel_rfl) (by kernel_rfl) (by rfl)) ?_
  refine CS.mono ?_
  rintro e Y ⟨v1, v2, rfl, O1, O2, hc1, hc2, L4⟩
  obtain ⟨q1, c1, rfl, hq1, hc1', hn1, R1⟩ := O1.read
  obtain ⟨q2, c2, rfl, hq2, hc2', hn2, R2⟩ := O2.read
  refine ⟨_, rfl, trivial, ?_⟩
  refine held_take (i := 12) (v := .tuple #[.slice q1 cl.length c1, .slice q2 mk.length c2]) rfl (by kernel_rfl) (by kernel_rfl) (by kernel_rfl) (fun _ _ _ h => h) (by kernel_rfl) trivial (fun _ _ => by kernel_rfl) ?_
  refine held_take (i := 13) (v := .slice q1 cl.length c1) rfl (by kernel_rfl) (by kernel_rfl) (by kernel_rfl) (fun _ _ _ h => h) (by kernel_rfl) trivial (fun _ _ => by kernel_rfl) ?_
  refine held_take (i := 14) (v := .slice q2 mk.length c2) rfl (by kernel_rfl) (by kernel_rfl) (by kernel_rfl) (fun _ _ _ h => h) (by kernel_rfl) trivial (fun _ _ => by kernel_rfl) ?_
  refine held_take (i := 15) (v := .slice q1 cl.length c1) rfl (by kernel_rfl) (by kernel_rfl) (by kernel_rfl) (fun _ _ _ h => h) (by kernel_rfl) trivial (fun _ _ => by kernel_rfl) ?_
  refine held_take (i := 16) (v := .slice q2 mk.length c2) rfl (by kernel_rfl) (by kernel_rfl) (by kernel_rfl) (fun _ _ _ h => h) (by kernel_rfl) trivial (fun _ _ => by kernel_rfl) ?_
  refine held_done (by kernel_rfl) ?_
  have P4 := P3.below L4
  have T4 := T3.below L4 T3.lt
  have M4 := Base.next M3 L4
  have s4 : Spans Y q1 cl := R1.row
  have t4 : Spans Y q2 mk := R2.row
  have hFi := hSe.fine hOK
  have hm32 := hSe.short hOK hr
  have hl32 := hSe.l32
  clear P3 T3 M3 L4 O1 O2 R1 R2 CS
  have e4 : Y.cell? ⟨u1.heap.size, 1, none⟩ = some (.pointer (some ⟨b, 0, none⟩)) := T4.cell 1
  have CL := ref_low P4.rf
  rw [hlw] at CL
  generalize hat : low + a4 % 40 = at0
  go_upto_region 6 with (go_at_call 17; (with_reducible refine CL.mono ?_); rintro e u5 ⟨rfl, L5⟩)
  have P5 := P4.below L5
  have T5 := T4.below L5 T4.lt
  have M5 := Base.next M4 L5
  have s5 : Spans u5 q1 cl := Row.below s4 L5
  have t5 : Spans u5 q2 mk := Row.below t4 L5
  clear P4 T4 M4 s4 t4 L5 CL e4
  have CF := ref_from q1 cl.length c1 cl at0 u5 rfl (by omega) s5
  have hfl := from_len cl at0
  have hfg : good (fromS cl at0) = true := from_good hFi.gl
  have hfi := fun n => from_is cl at0 n
  have hct : 0 < (fromS cl at0).length → ∀ n, has (cutS cl (((fromS cl at0).getD 0 (0, 0)).1, 4611686018427387903)) n = (has cl n && decide (n < at0)) := fun h n => cut_is hFi.gl h n
  have hwh : (fromS cl at0).length = 0 → ∀ n, has cl n = (has cl n && decide (n < at0)) := fun h n => whole_is (List.eq_nil_of_length_eq_zero h) n
  generalize fromS cl at0 = hgh at *
  go_upto_region 7 with (go_at_call 18; (with_reducible refine CF.mono ?_); rintro e u6 ⟨v6, rfl, O6, L6⟩; obtain ⟨qh, ch, rfl, hh1, hh2, _, R6⟩ := O6.read)
  have P6 := P5.below L6
  have T6 := T5.below L6 T5.lt
  have M6 := Base.next M5 L6
  have s6 : Spans u6 q1 cl := Row.below s5 L6
  have t6 : Spans u6 q2 mk := Row.below t5 L6
  have h6 : Spans u6 qh hgh := R6.row
  clear P5 T5 M5 s5 t5 L6 CF O6 R6
  rcases Nat.eq_zero_or_pos hgh.length with h0 | h0
  · have h0I : ((hgh.length : Int)) = 0 := by omega
    have hwh := hwh h0
    clear hct h0
    have P7 := P6
    have T7 := T6
    have M7 := M6
    have s7 := s6
    have t7 := t6
    have h7 := h6
    have l7 := s6
    clear P6 T6 M6 s6 t6 h6
    go_upto_region 10 with fail
    clear h0I
    obtain ⟨lw, l7, gl7, il7, el7⟩ : ∃ lw, Spans u6 q1 lw ∧ good lw = true ∧ (∀ n, has lw n = (has cl n && decide (n < at0))) ∧ lw.length = cl.length := ⟨cl, l7, hFi.gl, hwh, rfl⟩
    clear hwh
    obtain ⟨j1, j2, j3, j4, j5⟩ := hFi.join hOK gl7 hfg il7 hfi
    have g1 := fun (U : World) (hU : Below u6.heap.size u6 U) => sum_any (P7.below hU).led (by omega) q1 q2 cl.length c1 mk.length c2 cl mk rfl rfl (by omega) (by omega) (Fits.of_good hFi.gl) (Fits.of_good hFi.gm) (Row.below s7 hU) (Row.below t7 hU)
    have g2 := fun (U : World) (hU : Below u6.heap.size u6 U) => sum_any (P7.below hU).led (by omega) q1 q2 cl.length c1 mk.length c2 lw mk el7 rfl (by omega) (by omega) (Fits.of_good gl7) (Fits.of_good hFi.gm) (Row.below l7 hU) (Row.below t7 hU)
    have g3 := fun (U : World) (hU : Below u6.heap.size u6 U) => sum_any (P7.below hU).led (by omega) qh q2 hgh.length ch mk.length c2 hgh mk rfl rfl (by omega) (by omega) (Fits.of_good hfg) (Fits.of_good hFi.gm) (Row.below h7 hU) (Row.below t7 hU)
    have dd := fun (U : World) (hU : Below u6.heap.size u6 U) => show U.cell? ⟨u1.heap.size, 0, none⟩ = some (.pointer (some a)) from (T7.below hU T7.lt).cell 0
    generalize hS1 : sumG g cl mk = S1 at g1 j1 j2 j3
    generalize hS2 : sumG g lw mk = S2 at g2 j1 j2 j4
    generalize hS3 : sumG g hgh mk = S3 at g3 j1 j2 j5
    obtain ⟨X1, A1, I1⟩ := S1
    obtain ⟨X2, A2, I2⟩ := S2
    obtain ⟨X3, A3, I3⟩ := S3
    simp only at j1 j2 j3 j4 j5 g1 g2 g3
    subst j3
    subst j4
    subst j5
    subst j2
    have j1 : X1 = bits .xor .u64 X2 X3 := j1
    subst j1
    clear hS1 hS2 hS3
    have N0 : Below u6.heap.size u6 u6 := Below.refl _ _
    have y0 := dd _ N0
    go_wp2_with (first
      | (go_at_call 10; (with_reducible refine (g1 _ N0).mono ?_); rintro e v1 ⟨rfl, E1⟩; have N1 := N0.trans (E1.mono N0.size); have y1 := dd _ N1; clear g1)
      | (go_at_call 10; (with_reducible refine (g2 _ N1).mono ?_); rintro e v2 ⟨rfl, E2⟩; have N2 := N1.trans (E2.mono N1.size); have y2 := dd _ N2; clear g2)
      | (go_at_call 10; (with_reducible refine (g3 _ N2).mono ?_); rintro e v3 ⟨rfl, E3⟩; have N3 := N2.trans (E3.mono N2.size); clear g3))
    all_goals go_ret
    all_goals exact ⟨by cases A2 <;> cases A3 <;> simp, Base.next M7 N3⟩
  · have h0I : (0 : Int) < (hgh.length : Int) := by omega
    have hct := hct h0
    clear hwh
    obtain ⟨bb, off, rfl, hbb, c0, _⟩ := h6.at_ (i := 0) h0
    simp only [Nat.zero_mul, Nat.add_zero] at c0
    have hgo := good_get hfg h0
    generalize (hgh.getD 0 (0, 0)).1 = h00 at *
    have CC := ref_cut q1 cl.length c1 cl (h00, 4611686018427387903) u6 rfl (by omega) hFi.gl hgo.1 (by simp only; omega) (Int.le_refl _) s6
    have hcg := cut_good (s := (h00, 4611686018427387903)) hFi.gl (by simp only; omega)
    have hcl := cut_len (s := (h00, 4611686018427387903)) hFi.gl
    simp only at CC
    generalize cutS cl (h00, 4611686018427387903) = lw at *
    go_upto_region 10 with (go_at_call 19; (with_reducible refine CC.mono ?_); rintro e u7 ⟨v7, rfl, O7, L7⟩; obtain ⟨ql, kl, rfl, hh3, hh4, _, R7⟩ := O7.read)
    have P7 := P6.below L7
    have T7 := T6.below L7 T6.lt
    have M7 := Base.next M6 L7
    have s7 : Spans u7 q1 cl := Row.below s6 L7
    have t7 : Spans u7 q2 mk := Row.below t6 L7
    have h7 : Spans u7 (some ⟨bb, off, none⟩) hgh := Row.below h6 L7
    have l7 : Spans u7 ql lw := R7.row
    clear P6 T6 M6 s6 t6 h6 L7 CC O7 R7 c0
    obtain ⟨j1, j2, j3, j4, j5⟩ := hFi.join hOK hcg hfg hct hfi
    have g1 := fun (U : World) (hU : Below u7.heap.size u7 U) => sum_any (P7.below hU).led (by omega) q1 q2 cl.length c1 mk.length c2 cl mk rfl rfl (by omega) (by omega) (Fits.of_good hFi.gl) (Fits.of_good hFi.gm) (Row.below s7 hU) (Row.below t7 hU)
    have g2 := fun (U : World) (hU : Below u7.heap.size u7 U) => sum_any (P7.below hU).led (by omega) ql q2 lw.length kl mk.length c2 lw mk rfl rfl (by omega) (by omega) (Fits.of_good hcg) (Fits.of_good hFi.gm) (Row.below l7 hU) (Row.below t7 hU)
    have g3 := fun (U : World) (hU : Below u7.heap.size u7 U) => sum_any (P7.below hU).led (by omega) (some ⟨bb, off, none⟩) q2 hgh.length ch mk.length c2 hgh mk rfl rfl (by omega) (by omega) (Fits.of_good hfg) (Fits.of_good hFi.gm) (Row.below h7 hU) (Row.below t7 hU)
    have dd := fun (U : World) (hU : Below u7.heap.size u7 U) => show U.cell? ⟨u1.heap.size, 0, none⟩ = some (.pointer (some a)) from (T7.below hU T7.lt).cell 0
    generalize hS1 : sumG g cl mk = S1 at g1 j1 j2 j3
    generalize hS2 : sumG g lw mk = S2 at g2 j1 j2 j4
    generalize hS3 : sumG g hgh mk = S3 at g3 j1 j2 j5
    obtain ⟨X1, A1, I1⟩ := S1
    obtain ⟨X2, A2, I2⟩ := S2
    obtain ⟨X3, A3, I3⟩ := S3
    simp only at j1 j2 j3 j4 j5 g1 g2 g3
    subst j3
    subst j4
    subst j5
    subst j2
    have j1 : X1 = bits .xor .u64 X2 X3 := j1
    subst j1
    clear hS1 hS2 hS3
    have N0 : Below u7.heap.size u7 u7 := Below.refl _ _
    have y0 := dd _ N0
    go_wp2_with (first
      | (go_at_call 10; (with_reducible refine (g1 _ N0).mono ?_); rintro e v1 ⟨rfl, E1⟩; have N1 := N0.trans (E1.mono N0.size); have y1 := dd _ N1; clear g1)
      | (go_at_call 10; (with_reducible refine (g2 _ N1).mono ?_); rintro e v2 ⟨rfl, E2⟩; have N2 := N1.trans (E2.mono N1.size); have y2 := dd _ N2; clear g2)
      | (go_at_call 10; (with_reducible refine (g3 _ N2).mono ?_); rintro e v3 ⟨rfl, E3⟩; have N3 := N2.trans (E3.mono N2.size); clear g3))
    all_goals go_ret
    all_goals exact ⟨by cases A2 <;> cases A3 <;> simp, Base.next M7 N3⟩

set_option maxRecDepth 100000 in
theorem lifted (os : Os) (started : os.Started) (H : Type) (enc : TypeId × Value → H) :
    ReturnsInHanded {} Try.checked os 6 .any (Rows.proofJoinsSpec.pre6 enc Try.prog Try.f6 Rows.proofJoinsRow.domain false) (Rows.proofJoinsSpec.post enc Try.prog Try.f6 false true false false) := by
  refine returnsInHanded_of_change (C := Try.checked) own started (by kernel_rfl) Try.func6
    (ChangeSpec.witness6 (enc := enc) (C := Try.checked) false ⟨#[], #[.int .u8 0, .slice none 0 0, .int .u8 0, .int .u8 0, .int .u8 0], []⟩ 8 (by kernel_rfl) (by kernel_rfl) (by kernel_rfl) (by kernel_rfl)) ?_
  intro W base args ds gs before hval0 hW hcnd _
  have hval : ∀ (j : Nat) t v, Try.f6.params[j]? = some t → args[j]? = some v → Value.okWide Try.prog W .any base t v := hval0
  have hW' := hW
  obtain ⟨p, q, hA0, hV, rfl, hfz, hnd⟩ := hW
  have hA : DataW.TrodAll enc Try.prog W 0 (fun _ => true) true Try.f6.params.toList args.toList ds p := hA0
  rw [Try.params6] at hA hval
  obtain ⟨v0, vs0, d0, ds0, p0, q0, hargs, rfl, rfl, h0, r0⟩ := trodAll_cons hA
  obtain ⟨v1, vs1, d1, ds1, p1, q1, rfl, rfl, rfl, h1, r1⟩ := trodAll_cons r0
  obtain ⟨v2, vs2, d2, ds2, p2, q2, rfl, rfl, rfl, h2, r2⟩ := trodAll_cons r1
  obtain ⟨v3, vs3, d3, ds3, p3, q3, rfl, rfl, rfl, h3, r3⟩ := trodAll_cons r2
  obtain ⟨v4, vs4, d4, ds4, p4, q4, rfl, rfl, rfl, h4, r4⟩ := trodAll_cons r3
  obtain ⟨rfl, rfl, rfl⟩ := trodAll_nil r4
  obtain rfl : args = #[v0, v1, v2, v3, v4] := by cases args; simp_all
  obtain ⟨rfl, rfl⟩ := trodVars_none hV
  obtain ⟨a0, rfl, rfl, rfl, w0⟩ := open_int Try.underlying5 (hval 0 5 v0 rfl rfl) h0
  obtain ⟨a1, len1, cap1, rfl⟩ := okWide_slice Try.underlying22 (hval 1 22 v1 rfl rfl)
  have k1 := h1
  have lt1 : ∀ x ∈ p1, x.block < W.heap.size := by obtain ⟨m, hm⟩ := k1; exact DataW.trod_lt m _ _ _ hm
  obtain ⟨z1, w1, n1, m1, o1, f1⟩ : ∃ zs, Deeds W a1 zs ∧ zs.length = len1 ∧ len1 ≤ cap1 ∧ cap1 ≤ maxLen ∧ (∀ d ∈ zs, Fit d) := by
    obtain ⟨fuel, hf⟩ := h1
    rcases open_deeds Try.underlying22 Try.underlying64 (by kernel_rfl) (by kernel_rfl) Try.underlying3 Try.underlying30 Try.underlying30 hf with ⟨hcs, hx⟩ | ⟨x, l, c, zs, E, S, hcs, hl, hm, hz, hx, hE, hS, hsp, hwz⟩
    · simp [Value.cells] at hcs
      obtain ⟨rfl, rfl, rfl⟩ := hcs
      exact ⟨[], Deeds.nil _ _, rfl, Nat.le_refl _, Nat.zero_le _, fun _ h => by cases h⟩
    · simp [Value.cells] at hcs
      obtain ⟨rfl, rfl, rfl⟩ := hcs
      exact ⟨zs, hsp, hz, hl, hm, hwz⟩
  obtain ⟨a2, rfl, rfl, rfl, w2⟩ := open_int Try.underlying5 (hval 2 5 v2 rfl rfl) h2
  obtain ⟨a3, rfl, rfl, rfl, w3⟩ := open_int Try.underlying5 (hval 3 5 v3 rfl rfl) h3
  obtain ⟨a4, rfl, rfl, rfl, w4⟩ := open_int Try.underlying5 (hval 4 5 v4 rfl rfl) h4
  clear hA0 hval0
  refine (walk a0 a1 len1 cap1 z1 a2 a3 a4 W w0 w1 n1 m1 o1 f1 w2 w3 w4).mono fun e W' ⟨he, bel⟩ => ?_
  subst he
  exact ⟨_, rfl, _, _, _, [], _, [], hW', trodAll_mk1 (shut_bool Try.underlying4 _), (trodAll_cons_mk (shut_int Try.underlying5 w0) (trodAll_cons_mk (Below.trod laidOut (by kernel_rfl) (of_decide_eq_true (by kernel_rfl)) k1 bel lt1) (trodAll_cons_mk (shut_int Try.underlying5 w2) (trodAll_cons_mk (shut_int Try.underlying5 w3) (trodAll_cons_mk (shut_int Try.underlying5 w4) trodAll_mk0))))), rfl, bel.frame _, fun h => by cases h⟩

theorem over : Rows.proofJoinsRow.holds Try.pinned (OpenSpec.ofChange Rows.proofJoinsSpec) :=
  OpenClaim.holds_of_wide 6 Try.f6 rfl rfl rfl rfl rfl rfl rfl ⟨rfl, rfl, rfl, rfl, rfl⟩ rfl rfl rfl rfl rfl (by kernel_rfl) Try.func6 (by kernel_rfl)
    (of_decide_eq_true (by kernel_rfl)) (by unfold Func.isWrapper; first | (rw [if_pos (by decide +kernel)]; kernel_rfl) | (rw [if_neg (by decide +kernel)]; exact ⟨rfl, rfl⟩))
    (fun os started H enc _ => lifted os started H enc)

/-- The given statement. -/
theorem proved : Rows.ProofJoinsSaid :=
  over
#print axioms proved
end Go.Proofs.Ytlnncfjfphkkdaa.proofJoins
