/-
  Who tells the sums of what is there is right, and another exclusive or, or another parity, is not. No conditions.
-/
import Derived.Test.YtlnncfjfphkkdaaM1
import Derived.Test.YtlnncfjfphkkdaaRows
import Derived.Test.YtlnncfjfphkkdaaRow
import Derived.WalkKit
import Derived.ProofKit
import Derived.OpenShut
import Derived.ShutString
import Derived.ChangeOld
import Derived.Below
import Derived.Test.YtlnncfjfphkkdaaProofAlive
import Derived.Test.YtlnncfjfphkkdaaProofSeen
import Derived.Test.YtlnncfjfphkkdaaM9
import Derived.Test.YtlnncfjfphkkdaaTail2
namespace Go.Proofs.Ytlnncfjfphkkdaa.proofHolds
open Go.ChangeShapes Go.WideShapes Go.ChangeAt Go.RowKit
open Go.ChangeMaps (open_string shut_string)
open Go.Proofs.Ytlnncfjfphkkdaa.Base
set_option linter.unusedVariables false
set_option linter.unusedSimpArgs false

theorem own : ownKnob Try.prog.godebug = none := by kernel_rfl
theorem laidOut : laidOutB Try.prog = true := by kernel_rfl

open Go.Proofs.Ytlnncfjfphkkdaa.Led Go.Proofs.Ytlnncfjfphkkdaa.LedPlain Go.Proofs.Ytlnncfjfphkkdaa.SpanPlain Go.Proofs.Ytlnncfjfphkkdaa.SpanRef
open Go.Proofs.Ytlnncfjfphkkdaa.AckPlain (K)
set_option maxHeartbeats 4000000 in
theorem walk (a0 : Int) (a1 : Option Addr) (len1 cap1 : Nat) (z1 : List Dd) (a2 : Int) (a3 : Int) (a4 : Int) (w : World) (w0 : (Lit.int .u8 a0).wf = true) (w1 : Deeds w a1 z1) (n1 : z1.length = len1) (m1 : len1 ≤ cap1) (o1 : cap1 ≤ maxLen) (f1 : ∀ d ∈ z1, Fit d) (w2 : (Lit.int .u8 a2).wf = true) (w3 : (Lit.int .u8 a3).wf = true) (w4 : (Lit.int .u64 a4).wf = true) :
    Calls Try.prog 5 #[.int .u8 a0, .slice a1 len1 cap1, .int .u8 a2, .int .u8 a3, .int .u64 a4] w fun e w' => e = .returned (.bool true) ∧ Below w.heap.size w w' := by
  obtain ⟨p0, p1⟩ := Base.u8_of w0
  obtain ⟨r0, r1⟩ := Base.u8_of w2
  obtain ⟨s0, s1⟩ := Base.u8_of w3
  obtain ⟨x0, x1⟩ := Base.u64_of w4
  subst n1
  have hB := Below.refl w.heap.size w
  have CM := make_any (a0 % 40) 4611686018427387903 (by omega) (by omega) (by decide) (by decide) a1 z1.length cap1 z1 w rfl m1 o1 f1 w1
  have CA := fun U => alive_proof U
  have hgl := made_len (a0 % 40) 4611686018427387903 z1
  have hrg := made_ring (a0 % 40) 4611686018427387903 z1
  have hOk : ∀ S w' a b, Pair S w' a b (madeG (a0 % 40) 4611686018427387903 z1) → Ok (madeG (a0 % 40) 4611686018427387903 z1) := fun _ _ _ _ h => h.ok
  generalize madeG (a0 % 40) 4611686018427387903 z1 = g at *
  go_enter Try.func5, Try.ntmps5
  go_upto_region 4 with (first
    | (go_at_call 8; refine CM.mono ?_; rintro e u1 ⟨a, b, S, rfl, P1, hS, L1⟩; have hOK := hOk _ _ _ _ P1; have hM := hB.trans (L1.mono hB.size); have M1 := hM.alloc hM.size (.cells #[.pointer (some a), .pointer (some ⟨b, 0, none⟩)] 27); have T1 := Blk.new u1 #[.pointer (some a), .pointer (some ⟨b, 0, none⟩)] 27; have LA := (Below.refl u1.heap.size u1).alloc (Nat.le_refl _) (.cells #[.pointer (some a), .pointer (some ⟨b, 0, none⟩)] 27); replace P1 := P1.below LA; clear CM hOk)
    | (go_at_call 9; (with_reducible refine (CA _).mono ?_); rintro e u2 ⟨rfl, L2⟩; have M2 := M1.trans (L2.mono M1.size); have T2 := T1.below L2 T1.lt; have P2 := P1.below L2; clear CA T1 P1))
  have hr : g.ring ≤ 40 := by rw [hrg]; omega
  have hlow := low_le g
  have hnl : (g.l.length : Int) ≤ 80 := by omega
  clear hrg L1 L2 LA hM M1 w1 hB
  have d2 : u2.cell? ⟨u1.heap.size, 0, none⟩ = some (.pointer (some a)) := T2.cell 0
  have e2 : u2.cell? ⟨u1.heap.size, 1, none⟩ = some (.pointer (some ⟨b, 0, none⟩)) := T2.cell 1
  have q0 := fun v : In (Lt u2) => inCell v d2
  have q1 := fun v : In (Lt u2) => inCell v e2
  have CL := fun v : In (Lt u2) => ref_low (P2.below v.h).rf
  generalize hlw : (lowN g : Int) = low at CL
  refine wp_region_rest (C := fun w' => ∃ p : In (Lt u2), w' = p.w) 11 6 (by kernel_rfl) (by kernel_rfl) (by kernel_rfl) (by kernel_rfl) (by kernel_rfl) ⟨⟨u2.drew, Lt.drew u2⟩, rfl⟩ ?_
  simp only [List.take_succ_cons, List.take_zero]
  repeat (go_big_quiet_step ((go_at_call 17; refine in_below (v := .int .u64 low) ?_; exact CL _)))
  refine wpQuiet_nil ?_
  rintro X ⟨⟨_, hX⟩, rfl⟩
  have hX : Below u2.heap.size u2 X := hX
  have P3 := P2.below hX
  have T3 := T2.below hX T2.lt
  have M3 := Base.next M2 hX
  clear q0 q1 CL d2 e2 P2 T2 M2 hX
  have CS := seen_any (a := a) P3.rf (by omega) (low + a2 % 8) (a3 % 40) (by omega) (by omega)
  have hSe := seen_is hOK (low + a2 % 8) (a3 % 40)
  generalize seenG g (low + a2 % 8) (a3 % 40) = se at CS hSe
  obtain ⟨cl, mk⟩ := se
  simp only at CS hSe
  refine wpAny_of_held (S := fun _ => True) _ _ _ _ ?_
  refine held_call (i := 11) (f := 16) (args := #[.agg #[.pointer (some a), .pointer (some ⟨b, 0, none⟩)], .int .u64 ((low + a2 % 8)), .int .i64 ((a3 % 40))]) rfl (by kernel_rfl) (by kernel_rfl) (enter3 (.tmp 40) (.tmp 47) (.tmp 50) _ rfl (by kernel_rfl) (by kernel_rfl) (by kernel_rfl) (by kernel_rfl) (by rfl)) ?_
  refine CS.mono ?_
  rintro e Y ⟨v1, v2, rfl, O1, O2, hc1, hc2, L4⟩
  obtain ⟨q1, c1, rfl, hq1, hc1', hn1, R1⟩ := O1.read
  obtain ⟨q2, c2, rfl, hq2, hc2', hn2, R2⟩ := O2.read
  refine ⟨_, rfl, trivial, ?_⟩
  refine held_take (i := 12) (v := .tuple #[.slice q1 cl.length c1, .slice q2 mk.length c2]) rfl (by kernel_rfl) (by kernel_rfl) (by kernel_rfl) (fun _ _ _ h => h) (by kernel_rfl) trivial (fun _ _ => by kernel_rfl) ?_
  refine held_take (i := 13) (v := .slice q1 cl.length c1) rfl (by kernel_rfl) (by kernel_rfl) (by kernel_rfl) (fun _ _ _ h => h) (by kernel_rfl) trivial (fun _ _ => by kernel_rfl) ?_
  refine held_take (i := 14) (v := .slice q2 mk.length c2) rfl (by kernel_rfl) (by kernel_rfl) (by kernel_rfl) (fun _ _ _ h => h) (by kernel_rfl) trivial (fun _ _ => by kernel_rfl) ?_
  refine held_take (i := 15) (v := .slice q1 cl.length c1) rfl (by kernel_rfl) (by kernel_rfl) (by kernel_rfl) (fun _ _ _ h => h) (by kernel_rfl) trivial (fun _ _ => by kernel_rfl) ?_
  refine held_take (i := 16) (v := .slice q2 mk.length c2) rfl (by kernel_rfl) (by kernel_rfl) (by kernel_rfl) (fun _ _ _ h => h) (by kernel_rfl) trivial (fun _ _ => by kernel_rfl) ?_
  refine held_done (by kernel_rfl) ?_
  have P4 := P3.below L4
  have T4 := T3.below L4 T3.lt
  have M4 := Base.next M3 L4
  have s4 : Spans Y q1 cl := R1.row
  have t4 : Spans Y q2 mk := R2.row
  have hFi := hSe.fine hOK
  have hm32 := hSe.short hOK hr
  have hl32 := hSe.l32
  clear P3 T3 M3 L4 O1 O2 R1 R2 CS
  rcases Nat.eq_zero_or_pos cl.length with h0 | h0
  · have h0I : (cl.length : Int) = 0 := by omega
    go_wp2
    all_goals go_ret
    all_goals exact ⟨rfl, M4⟩
  · have h0I : (0 : Int) < (cl.length : Int) := by omega
    have CK := fun x p => hFi.check h0 hl32 hm32 hSe.mis 0 x p
    have his := hFi.is
    have C0 := sum_any P4.led (by omega) q1 q2 cl.length c1 mk.length c2 cl mk rfl rfl (by omega) (by omega) (Fits.of_good hFi.gl) (Fits.of_good hFi.gm) s4 t4
    have CC := fun (U : World) (hU : Below Y.heap.size Y U) (x : Int) (p : Bool) => check_any (P4.below hU).led (by omega) ⟨cl, mk, 0, x, p⟩ q1 q2 cl.length c1 mk.length c2 rfl rfl (by omega) (by omega) (Fits.of_good hFi.gl) (Fits.of_good hFi.gm) (Row.below s4 hU) (Row.below t4 hU)
    generalize sumG g cl mk = sm at C0 CK his
    obtain ⟨y, od, is⟩ := sm
    simp only at his
    subst his
    simp only at CK C0 CC
    have d4 : Y.cell? ⟨u1.heap.size, 0, none⟩ = some (.pointer (some a)) := T4.cell 0
    go_upto_region 9 with (go_at_call 10; (with_reducible refine C0.mono ?_); rintro e u5 ⟨rfl, L5⟩)
    refine at_world ?_
    intro A hA
    obtain ⟨D1, N1⟩ : Blk A u5.heap.size #[.slice q1 cl.length c1, .slice q2 mk.length c2, .int .u64 0, .int .u64 y, .bool od] 37 ∧ Below Y.heap.size Y A := by
      subst hA
      exact ⟨Blk.new _ _ _, L5.alloc L5.size _⟩
    have hlt : Y.heap.size ≤ u5.heap.size := L5.size
    have B1 : Below u5.heap.size u5 A := by
      subst hA
      exact (Below.refl _ _).alloc (Nat.le_refl _) _
    clear hA d4 C0
    have dd := fun (U : World) (hU : Below Y.heap.size Y U) => show U.cell? ⟨u1.heap.size, 0, none⟩ = some (.pointer (some a)) from (T4.below hU T4.lt).cell 0
    have c1 := dd A N1
    have K1 := CC A N1 y od
    rw [CK] at K1
    obtain ⟨z0, z1, z2, z3, z4⟩ := AckMay.blk5 D1
    have hx1 : (if y ≠ y then (6 : Int) else if od ≠ od then 7 else 0) = 0 := by simp
    rw [hx1] at K1
    go_upto_region 10 with (go_at_call 14; (with_reducible refine K1.mono ?_); rintro e v1 ⟨rfl, L6⟩)
    have D2 := D1.below L6 D1.lt
    have B2 := B1.trans (L6.mono B1.size)
    clear z0 z1 z2 z3 z4 K1 c1 D1 N1 L6
    obtain ⟨z0, z1, z2, z3, z4⟩ := AckMay.blk5 D2
    have f3 := D2.free 3
    go_upto_region 11 with fail
    refine at_world ?_
    intro A2 hA2
    obtain ⟨D3, B3⟩ : Blk A2 u5.heap.size #[.slice q1 cl.length c1, .slice q2 mk.length c2, .int .u64 0, .int .u64 a4, .bool od] 37 ∧ Below u5.heap.size u5 A2 := by
      subst hA2
      exact ⟨D2.set 3 _, B2.setCell (Nat.le_refl _) _⟩
    clear hA2 z0 z1 z2 z3 z4 f3 D2 B2
    have N3 := L5.trans (B3.mono hlt)
    have c3 := dd A2 N3
    have K3 := CC A2 N3 a4 od
    rw [CK] at K3
    have hx3 : (if y ≠ a4 then (6 : Int) else if od ≠ od then 7 else 0) = if y ≠ a4 then 6 else 0 := by simp
    rw [hx3] at K3
    obtain ⟨z0, z1, z2, z3, z4⟩ := AckMay.blk5 D3
    generalize hqq : (if y ≠ a4 then (6 : Int) else 0) = qq at K3
    have hqq := Lib.hid hqq
    go_upto_region 12 with (go_at_call 14; (with_reducible refine K3.mono ?_); rintro e v2 ⟨rfl, L7⟩)
    have D4 := D3.below L7 D3.lt
    have B4 := B3.trans (L7.mono B3.size)
    clear z0 z1 z2 z3 z4 K3 c3 D3 N3 L7
    obtain ⟨z0, z1, z2, z3, z4⟩ := AckMay.blk5 D4
    have f3 := D4.free 3
    go_upto_region 13 with fail
    refine at_world ?_
    intro A3 hA3
    obtain ⟨D5, B5⟩ : Blk A3 u5.heap.size #[.slice q1 cl.length c1, .slice q2 mk.length c2, .int .u64 0, .int .u64 y, .bool od] 37 ∧ Below u5.heap.size u5 A3 := by
      subst hA3
      exact ⟨D4.set 3 _, B4.setCell (Nat.le_refl _) _⟩
    clear hA3 z0 z1 z2 z3 z4 f3 D4 B4
    obtain ⟨z0, z1, z2, z3, z4⟩ := AckMay.blk5 D5
    have f4 := D5.free 4
    go_upto_region 14 with fail
    refine at_world ?_
    intro A4 hA4
    obtain ⟨D6, B6⟩ : Blk A4 u5.heap.size #[.slice q1 cl.length c1, .slice q2 mk.length c2, .int .u64 0, .int .u64 y, .bool (!od)] 37 ∧ Below u5.heap.size u5 A4 := by
      subst hA4
      exact ⟨D5.set 4 _, B5.setCell (Nat.le_refl _) _⟩
    clear hA4 z0 z1 z2 z3 z4 f4 D5 B5
    have N6 := L5.trans (B6.mono hlt)
    have c6 := dd A4 N6
    have K6 := CC A4 N6 y (!od)
    rw [CK] at K6
    have hx6 : (if y ≠ y then (6 : Int) else if od ≠ !od then 7 else 0) = 7 := by cases od <;> simp
    rw [hx6] at K6
    obtain ⟨z0, z1, z2, z3, z4⟩ := AckMay.blk5 D6
    go_upto_region 15 with (go_at_call 14; (with_reducible refine K6.mono ?_); rintro e v3 ⟨rfl, L8⟩)
    have N7 := Base.next N6 L8
    have M7 := Base.next M4 N7
    have hqq2 := hqq.out
    clear hqq CK CC dd z0 z1 z2 z3 z4 K6 c6 D6 N6 L8 B6 B1 hx1 hx3 hx6
    by_cases hya : y = a4
    · subst hya
      rw [if_neg (fun e => e rfl)] at hqq2
      subst hqq2
      go_wp2
      all_goals go_ret
      all_goals exact ⟨by simp, M7⟩
    · rw [if_pos hya] at hqq2
      subst hqq2
      have h1 : (a4 == y) = false := by simpa using fun e => hya e.symm
      have h2 : (a4 != y) = true := by simpa using fun e => hya e.symm
      clear hya
      go_wp2
      all_goals go_ret
      all_goals exact ⟨by simp, M7⟩

set_option maxRecDepth 100000 in
theorem lifted (os : Os) (started : os.Started) (H : Type) (enc : TypeId × Value → H) :
    ReturnsInHanded {} Try.checked os 5 .any (Rows.proofHoldsSpec.pre6 enc Try.prog Try.f5 Rows.proofHoldsRow.domain false) (Rows.proofHoldsSpec.post enc Try.prog Try.f5 false true false false) := by
  refine returnsInHanded_of_change (C := Try.checked) own started (by kernel_rfl) Try.func5
    (ChangeSpec.witness6 (enc := enc) (C := Try.checked) false ⟨#[], #[.int .u8 0, .slice none 0 0, .int .u8 0, .int .u8 0, .int .u64 0], []⟩ 8 (by kernel_rfl) (by kernel_rfl) (by kernel_rfl) (by kernel_rfl)) ?_
  intro W base args ds gs before hval0 hW hcnd _
  have hval : ∀ (j : Nat) t v, Try.f5.params[j]? = some t → args[j]? = some v → Value.okWide Try.prog W .any base t v := hval0
  have hW' := hW
  obtain ⟨p, q, hA0, hV, rfl, hfz, hnd⟩ := hW
  have hA : DataW.TrodAll enc Try.prog W 0 (fun _ => true) true Try.f5.params.toList args.toList ds p := hA0
  rw [Try.params5] at hA hval
  obtain ⟨v0, vs0, d0, ds0, p0, q0, hargs, rfl, rfl, h0, r0⟩ := trodAll_cons hA
  obtain ⟨v1, vs1, d1, ds1, p1, q1, rfl, rfl, rfl, h1, r1⟩ := trodAll_cons r0
  obtain ⟨v2, vs2, d2, ds2, p2, q2, rfl, rfl, rfl, h2, r2⟩ := trodAll_cons r1
  obtain ⟨v3, vs3, d3, ds3, p3, q3, rfl, rfl, rfl, h3, r3⟩ := trodAll_cons r2
  obtain ⟨v4, vs4, d4, ds4, p4, q4, rfl, rfl, rfl, h4, r4⟩ := trodAll_cons r3
  obtain ⟨rfl, rfl, rfl⟩ := trodAll_nil r4
  obtain rfl : args = #[v0, v1, v2, v3, v4] := by cases args; simp_all
  obtain ⟨rfl, rfl⟩ := trodVars_none hV
  obtain ⟨a0, rfl, rfl, rfl, w0⟩ := open_int Try.underlying5 (hval 0 5 v0 rfl rfl) h0
  obtain ⟨a1, len1, cap1, rfl⟩ := okWide_slice Try.underlying22 (hval 1 22 v1 rfl rfl)
  have k1 := h1
  have lt1 : ∀ x ∈ p1, x.block < W.heap.size := by obtain ⟨m, hm⟩ := k1; exact DataW.trod_lt m _ _ _ hm
  obtain ⟨z1, w1, n1, m1, o1, f1⟩ : ∃ zs, Deeds W a1 zs ∧ zs.length = len1 ∧ len1 ≤ cap1 ∧ cap1 ≤ maxLen ∧ (∀ d ∈ zs, Fit d) := by
    obtain ⟨fuel, hf⟩ := h1
    rcases open_deeds Try.underlying22 Try.underlying64 (by kernel_rfl) (by kernel_rfl) Try.underlying3 Try.underlying30 Try.underlying30 hf with ⟨hcs, hx⟩ | ⟨x, l, c, zs, E, S, hcs, hl, hm, hz, hx, hE, hS, hsp, hwz⟩
    · simp [Value.cells] at hcs
      obtain ⟨rfl, rfl, rfl⟩ := hcs
      exact ⟨[], Deeds.nil _ _, rfl, Nat.le_refl _, Nat.zero_le _, fun _ h => by cases h⟩
    · simp [Value.cells] at hcs
      obtain ⟨rfl, rfl, rfl⟩ := hcs
      exact ⟨zs, hsp, hz, hl, hm, hwz⟩
  obtain ⟨a2, rfl, rfl, rfl, w2⟩ := open_int Try.underlying5 (hval 2 5 v2 rfl rfl) h2
  obtain ⟨a3, rfl, rfl, rfl, w3⟩ := open_int Try.underlying5 (hval 3 5 v3 rfl rfl) h3
  obtain ⟨a4, rfl, rfl, rfl, w4⟩ := open_int Try.underlying30 (hval 4 30 v4 rfl rfl) h4
  clear hA0 hval0
  refine (walk a0 a1 len1 cap1 z1 a2 a3 a4 W w0 w1 n1 m1 o1 f1 w2 w3 w4).mono fun e W' ⟨he, bel⟩ => ?_
  subst he
  exact ⟨_, rfl, _, _, _, [], _, [], hW', trodAll_mk1 (shut_bool Try.underlying4 _), (trodAll_cons_mk (shut_int Try.underlying5 w0) (trodAll_cons_mk (Below.trod laidOut (by kernel_rfl) (of_decide_eq_true (by kernel_rfl)) k1 bel lt1) (trodAll_cons_mk (shut_int Try.underlying5 w2) (trodAll_cons_mk (shut_int Try.underlying5 w3) (trodAll_cons_mk (shut_int Try.underlying30 w4) trodAll_mk0))))), rfl, bel.frame _, fun h => by cases h⟩

theorem over : Rows.proofHoldsRow.holds Try.pinned (OpenSpec.ofChange Rows.proofHoldsSpec) :=
  OpenClaim.holds_of_wide 5 Try.f5 rfl rfl rfl rfl rfl rfl rfl ⟨rfl, rfl, rfl, rfl, rfl⟩ rfl rfl rfl rfl rfl (by kernel_rfl) Try.func5 (by kernel_rfl)
    (of_decide_eq_true (by kernel_rfl)) (by unfold Func.isWrapper; first | (rw [if_pos (by decide +kernel)]; kernel_rfl) | (rw [if_neg (by decide +kernel)]; exact ⟨rfl, rfl⟩))
    (fun os started H enc _ => lifted os started H enc)

/-- The given statement. -/
theorem proved : Rows.ProofHoldsSaid :=
  over
#print axioms proved
end Go.Proofs.Ytlnncfjfphkkdaa.proofHolds
