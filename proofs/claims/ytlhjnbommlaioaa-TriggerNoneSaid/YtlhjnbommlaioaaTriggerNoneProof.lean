/-
  A nonce that nothing bears which is there and not used names nothing. No conditions.
-/
import Derived.Test.YtlhjnbommlaioaaQuad
import Derived.Test.YtlhjnbommlaioaaDeeds
import Derived.Test.YtlhjnbommlaioaaRows
import Derived.Test.YtlhjnbommlaioaaRow
import Derived.WalkKit
import Derived.ProofKit
import Derived.OpenShut
import Derived.ShutString
import Derived.ChangeOld
import Derived.Below
import Derived.Test.YtlhjnbommlaioaaTrigAlive
import Derived.Test.YtlhjnbommlaioaaTrigAsk
import Derived.Test.YtlhjnbommlaioaaTrigNamed
namespace Go.Proofs.Ytlhjnbommlaioaa.triggerNone
open Go.ChangeShapes Go.WideShapes Go.ChangeAt Go.RowKit
open Go.ChangeMaps (open_string shut_string)
open Go.Proofs.Ytlhjnbommlaioaa.Base
set_option linter.unusedVariables false

theorem own : ownKnob Try.prog.godebug = none := by kernel_rfl
theorem laidOut : laidOutB Try.prog = true := by kernel_rfl

open Go.Proofs.Ytlhjnbommlaioaa.Led Go.Proofs.Ytlhjnbommlaioaa.LedPlain Go.Proofs.Ytlhjnbommlaioaa.SpanRef
open Go.Proofs.Ytlhjnbommlaioaa.AckPlain (K)
set_option maxHeartbeats 4000000 in
theorem walk (a0 : Int) (a1 : Option Addr) (len1 cap1 : Nat) (z1 : List Dd) (c20 c21 c22 c23 : Int) (a3 : Int) (w : World) (w0 : (Lit.int .u8 a0).wf = true) (w1 : Deeds w a1 z1) (n1 : z1.length = len1) (m1 : len1 ≤ cap1) (o1 : cap1 ≤ maxLen) (f1 : ∀ d ∈ z1, Fit d) (w2 : (Lit.int .u16 c20).wf = true ∧ (Lit.int .u16 c21).wf = true ∧ (Lit.int .u16 c22).wf = true ∧ (Lit.int .u16 c23).wf = true) (w3 : (Lit.int .u64 a3).wf = true) :
    Calls Try.prog 6 #[.int .u8 a0, .slice a1 len1 cap1, .agg #[.int .u16 c20, .int .u16 c21, .int .u16 c22, .int .u16 c23], .int .u64 a3] w fun e w' => e = .returned (.bool true) ∧ Below w.heap.size w w' := by
  obtain ⟨p0, p1⟩ := Base.u8_of w0
  obtain ⟨⟨y0, y0'⟩, ⟨y1, y1'⟩, ⟨y2, y2'⟩, ⟨y3, y3'⟩⟩ : (0 ≤ c20 ∧ c20 ≤ 65535) ∧ (0 ≤ c21 ∧ c21 ≤ 65535) ∧ (0 ≤ c22 ∧ c22 ≤ 65535) ∧ (0 ≤ c23 ∧ c23 ≤ 65535) := ⟨Base.u16_of w2.1, Base.u16_of w2.2.1, Base.u16_of w2.2.2.1, Base.u16_of w2.2.2.2⟩
  subst n1
  obtain ⟨x0, x1⟩ := Base.u64_of w3
  go_enter Try.func6, Try.ntmps6
  go_upto_region 1 with fail
  refine at_world ?_
  intro V hV
  obtain ⟨hK, hB⟩ : Blk V w.heap.size #[.int .u16 c20, .int .u16 c21, .int .u16 c22, .int .u16 c23] 39 ∧ Below w.heap.size w V := by
    subst hV
    exact ⟨Blk.new _ _ _, (Below.refl _ _).alloc (Nat.le_refl _) _⟩
  clear hV
  have CM := make_any (a0 % 40) 4611686018427387903 (by omega) (by omega) (by decide) (by decide) a1 z1.length cap1 z1 V rfl m1 o1 f1 (w1.below hB)
  have CA := fun U => alive_trig U
  have hgl := made_len (a0 % 40) 4611686018427387903 z1
  have hOk : ∀ S w' a b, Pair S w' a b (madeG (a0 % 40) 4611686018427387903 z1) → Ok (madeG (a0 % 40) 4611686018427387903 z1) := fun _ _ _ _ h => h.ok
  generalize madeG (a0 % 40) 4611686018427387903 z1 = g at *
  go_upto_region 5 with (first
    | (go_at_call 7; refine CM.mono ?_; rintro e u1 ⟨a, b, S, rfl, P1, hS, L1⟩; have hOK := hOk _ _ _ _ P1; have hM := hB.trans (L1.mono hB.size); have M1 := hM.alloc hM.size (.cells #[.pointer (some a), .pointer (some ⟨b, 0, none⟩)] 30); have T1 := Blk.new u1 #[.pointer (some a), .pointer (some ⟨b, 0, none⟩)] 30; have LA := (Below.refl u1.heap.size u1).alloc (Nat.le_refl _) (.cells #[.pointer (some a), .pointer (some ⟨b, 0, none⟩)] 30); have K1 := (hK.below L1 hK.lt).below LA (hK.below L1 hK.lt).lt; replace P1 := P1.below LA; clear CM hOk)
    | (go_at_call 8; (with_reducible refine (CA _).mono ?_); rintro e u2 ⟨rfl, L2⟩; have M2 := M1.trans (L2.mono M1.size); have T2 := T1.below L2 T1.lt; have K2 := K1.below L2 K1.lt; have d2 : u2.cell? ⟨u1.heap.size, 0, none⟩ = some (.pointer (some a)) := T2.cell 0; have e2 : u2.cell? ⟨u1.heap.size, 1, none⟩ = some (.pointer (some ⟨b, 0, none⟩)) := T2.cell 1; have k0 : u2.cell? ⟨w.heap.size, 0, none⟩ = some (.int .u16 c20) := K2.cell 0; have k1 : u2.cell? ⟨w.heap.size, 1, none⟩ = some (.int .u16 c21) := K2.cell 1; have k2 : u2.cell? ⟨w.heap.size, 2, none⟩ = some (.int .u16 c22) := K2.cell 2; have k3 : u2.cell? ⟨w.heap.size, 3, none⟩ = some (.int .u16 c23) := K2.cell 3; have P2 := P1.below L2; have CK := ask_any (a := a) P2.rf (by omega) c20 c21 c22 c23 y0 y0' y1 y1' y2 y2' y3 y3' (0) (by omega) (by omega); clear CA T1 P1 K1)
    | (go_at_call 12; (with_reducible refine CK.mono ?_); rintro e u3 ⟨p, c, l, tr, xr, rfl, hlc, rowIn3, hfl, hl1, hl2, hgd, L3⟩; have s3 : Spans u3 p l := RowIn.row rowIn3; have M3 := M2.trans (L3.mono M2.size); have T3 := T2.below L3 T2.lt; have P3 := P2.below L3; clear CK T2 K2 P2 d2 e2 k0 k1 k2 k3))
  refine at_world ?_
  intro W hW
  obtain ⟨A4, B4⟩ : Blk W u3.heap.size #[.slice p l.length c, .slice none 0 0, .int .u64 tr, .int .u64 xr, .bool false] 26 ∧ Below u3.heap.size u3 W := by
    subst hW
    exact ⟨Blk.new _ _ _, (Below.refl _ _).alloc (Nat.le_refl _) _⟩
  clear hW L3 hM LA L1 L2 w1
  obtain ⟨z0, z1', z2, z3, z4⟩ := AckMay.blk5 A4
  have f2 := A4.free 2
  go_upto_region 6 with fail
  refine at_world ?_
  intro X hX
  obtain ⟨A5, B5⟩ : Blk X u3.heap.size #[.slice p l.length c, .slice none 0 0, .int .u64 a3, .int .u64 xr, .bool false] 26 ∧ Below u3.heap.size u3 X := by
    subst hX
    exact ⟨A4.set 2 _, B4.setCell (Nat.le_refl _) _⟩
  clear hX z0 z1' z2 z3 z4 f2 A4 B4
  have T5 := T3.below B5 T3.lt
  have P5 := P3.below B5
  have s5 := Row.below s3 B5
  have M5 := M3.trans (B5.mono M3.size)
  have e5 : X.cell? ⟨u1.heap.size, 1, none⟩ = some (.pointer (some ⟨b, 0, none⟩)) := T5.cell 1
  clear T3 P3 s3 M3 B5
  have CL := ref_all P5.rf (by omega)
  go_wp2_with (go_at_call 16; (with_reducible refine CL.mono ?_); rintro e u6 ⟨v6, rfl, O6, L6⟩; obtain ⟨p6, cap6, rfl, hc6, hm6, hz, _, _⟩ := O6.read; unfold maxLen at hm6; have A6 := A5.below L6 A5.lt; have T6 := T5.below L6 T5.lt; have P6 := P5.below L6; have s6 := Row.below s5 L6; have M6 := M5.trans (L6.mono M5.size); clear CL A5 T5 P5 s5 M5 e5)
  have hkl : (allS g).length + lowN g = g.l.length := by unfold allS; have := low_le g; rw [List.length_drop]; omega
  clear O6
  go_loopw [13, 39] (fun _ i wr => ∃ k : Nat, k ≤ (allS g).length ∧ i = .int .i64 k ∧ (∀ j, j < k → ¬ (((allS g).getD j Z8).nonce = a3 ∧ ((allS g).getD j Z8).used = false ∧ ((allS g).getD j Z8).state ≠ 4)) ∧ Below u6.heap.size u6 wr) (fun _ i _ => (allS g).length - (intOf i).toNat)
  case atStart => exact ⟨0, Nat.zero_le _, rfl, fun j hj => by omega, Below.refl _ _⟩
  case round =>
    obtain ⟨k, hk, rfl, hno, hL⟩ := hrel
    by_cases hlt : k < (allS g).length
    · obtain ⟨b', off', rfl, hb', e0, e1, e2, e3, e4, e5, e6, e7⟩ := (hz.below hL).at_ hlt
      have hkI : (k : Int) < ((allS g).length : Int) := by omega
      have hM := M6.trans (hL.mono M6.size)
      have hnx : ¬ (((allS g).getD k Z8).nonce = a3 ∧ ((allS g).getD k Z8).used = false ∧ ((allS g).getD k Z8).state ≠ 4) → ∀ j, j < k + 1 → ¬ (((allS g).getD j Z8).nonce = a3 ∧ ((allS g).getD j Z8).used = false ∧ ((allS g).getD j Z8).state ≠ 4) := fun h j hj => by
        by_cases e : j = k
        · subst e; exact h
        · exact hno j (by omega)
      clear hno
      generalize (allS g).getD k Z8 = s at e0 e1 e2 e3 e4 e5 e6 e7 hnx
      obtain ⟨s0, s1, s2, s3, s4, s5', s6', s7⟩ := s
      simp only at e0 e1 e2 e3 e4 e5 e6 e7 hnx
      by_cases t1 : s3 = a3
      · cases s6' with
        | true =>
          replace hnx := hnx (fun h => by cases h.2.1)
          go_wp2
          all_goals go_roundw
          case rel => exact ⟨k + 1, by omega, by go_num, hnx, hL.alloc hL.size _⟩
          case measure => simp [intOf]; omega
        | false =>
          by_cases t2 : s7 = 4
          · replace hnx := hnx (fun h => h.2.2 t2)
            go_wp2
            all_goals go_roundw
            case rel => exact ⟨k + 1, by omega, by go_num, hnx, hL.alloc hL.size _⟩
            case measure => simp [intOf]; omega
          · go_wp2
            all_goals go_ret
            all_goals exact ⟨rfl, hM.alloc hM.size _⟩
      · replace hnx := hnx (fun h => t1 h.1)
        go_wp2
        all_goals go_roundw
        case rel => exact ⟨k + 1, by omega, by go_num, hnx, hL.alloc hL.size _⟩
        case measure => simp [intOf]; omega
    · obtain rfl : k = (allS g).length := by omega
      have A7 := A6.below hL A6.lt
      have T7 := T6.below hL T6.lt
      have P7 := P6.below hL
      have M7 := M6.trans (hL.mono M6.size)
      have e7 : wr.cell? ⟨u1.heap.size, 0, none⟩ = some (.pointer (some a)) := T7.cell 0
      obtain ⟨g0, g1, g2, g3, g4⟩ := AckMay.blk5 A7
      have C1 := look_any P7.led (by omega) ⟨l, [], a3, xr, false⟩ p none l.length c 0 0 rfl rfl (by omega) (by decide) hfl (fun _ h => by cases h) (Row.below s6 hL) (Spans.nil _ _)
      rcases look_cases hOK ⟨l, [], a3, xr, false⟩ with ⟨h1, h2⟩ | ⟨i, i1, i2, h1, h2⟩
      · have hr : (lookG g ⟨l, [], a3, xr, false⟩).2 ≠ 0 := by omega
        rw [h1] at C1
        generalize (lookG g ⟨l, [], a3, xr, false⟩).2 = r at *
        clear h2
        go_wp2_with (go_at_call 9; (with_reducible refine C1.mono ?_); rintro e u8 ⟨rfl, L8⟩; have M8 := M7.trans (L8.mono M7.size))
        all_goals go_ret
        all_goals exact ⟨Base.ret_bool (by simp [hr]), M8⟩
      · exfalso
        obtain ⟨n1, n2, n3, _⟩ := names_parts h2
        refine hno (i - lowN g) (by omega) ?_
        have hat : (allS g).getD (i - lowN g) Z8 = atN g i := by
          unfold allS atN
          rw [drop_getD, show lowN g + (i - lowN g) = i by omega]
        rw [hat]
        exact ⟨n3, n2, n1⟩

set_option maxRecDepth 100000 in
theorem lifted (os : Os) (started : os.Started) (H : Type) (enc : TypeId × Value → H) :
    ReturnsInHanded {} Try.checked os 6 .any (Rows.triggerNoneSpec.pre6 enc Try.prog Try.f6 Rows.triggerNoneRow.domain false) (Rows.triggerNoneSpec.post enc Try.prog Try.f6 false true false false) := by
  refine returnsInHanded_of_change (C := Try.checked) own started (by kernel_rfl) Try.func6
    (ChangeSpec.witness6 (enc := enc) (C := Try.checked) false ⟨#[], #[.int .u8 0, .slice none 0 0, .agg #[.int .u16 0, .int .u16 0, .int .u16 0, .int .u16 0], .int .u64 0], []⟩ 8 (by kernel_rfl) (by kernel_rfl) (by kernel_rfl) (by kernel_rfl)) ?_
  intro W base args ds gs before hval0 hW hcnd _
  have hval : ∀ (j : Nat) t v, Try.f6.params[j]? = some t → args[j]? = some v → Value.okWide Try.prog W .any base t v := hval0
  have hW' := hW
  obtain ⟨p, q, hA0, hV, rfl, hfz, hnd⟩ := hW
  have hA : DataW.TrodAll enc Try.prog W 0 (fun _ => true) true Try.f6.params.toList args.toList ds p := hA0
  rw [Try.params6] at hA hval
  obtain ⟨v0, vs0, d0, ds0, p0, q0, hargs, rfl, rfl, h0, r0⟩ := trodAll_cons hA
  obtain ⟨v1, vs1, d1, ds1, p1, q1, rfl, rfl, rfl, h1, r1⟩ := trodAll_cons r0
  obtain ⟨v2, vs2, d2, ds2, p2, q2, rfl, rfl, rfl, h2, r2⟩ := trodAll_cons r1
  obtain ⟨v3, vs3, d3, ds3, p3, q3, rfl, rfl, rfl, h3, r3⟩ := trodAll_cons r2
  obtain ⟨rfl, rfl, rfl⟩ := trodAll_nil r3
  obtain rfl : args = #[v0, v1, v2, v3] := by cases args; simp_all
  obtain ⟨rfl, rfl⟩ := trodVars_none hV
  obtain ⟨a0, rfl, rfl, rfl, w0⟩ := open_int Try.underlying5 (hval 0 5 v0 rfl rfl) h0
  obtain ⟨a1, len1, cap1, rfl⟩ := okWide_slice Try.underlying22 (hval 1 22 v1 rfl rfl)
  have k1 := h1
  have lt1 : ∀ x ∈ p1, x.block < W.heap.size := by obtain ⟨m, hm⟩ := k1; exact DataW.trod_lt m _ _ _ hm
  obtain ⟨z1, w1, n1, m1, o1, f1⟩ : ∃ zs, Deeds W a1 zs ∧ zs.length = len1 ∧ len1 ≤ cap1 ∧ cap1 ≤ maxLen ∧ (∀ d ∈ zs, Fit d) := by
    obtain ⟨fuel, hf⟩ := h1
    rcases open_deeds Try.underlying22 Try.underlying55 (by kernel_rfl) (by kernel_rfl) Try.underlying3 Try.underlying24 Try.underlying24 hf with ⟨hcs, hx⟩ | ⟨x, l, c, zs, E, S, hcs, hl, hm, hz, hx, hE, hS, hsp, hwz⟩
    · simp [Value.cells] at hcs
      obtain ⟨rfl, rfl, rfl⟩ := hcs
      exact ⟨[], Deeds.nil _ _, rfl, Nat.le_refl _, Nat.zero_le _, fun _ h => by cases h⟩
    · simp [Value.cells] at hcs
      obtain ⟨rfl, rfl, rfl⟩ := hcs
      exact ⟨zs, hsp, hz, hl, hm, hwz⟩
  have k2 := h2
  have lt2 : ∀ x ∈ p2, x.block < W.heap.size := by obtain ⟨m, hm⟩ := k2; exact DataW.trod_lt m _ _ _ hm
  obtain ⟨c20, c21, c22, c23, rfl, w2⟩ := open_quad Try.underlying39 Try.underlying38 (by kernel_rfl) (by kernel_rfl) (by kernel_rfl) (hval 2 39 v2 rfl rfl) h2
  obtain ⟨a3, rfl, rfl, rfl, w3⟩ := open_int Try.underlying24 (hval 3 24 v3 rfl rfl) h3
  clear hA0 hval0
  refine (walk a0 a1 len1 cap1 z1 c20 c21 c22 c23 a3 W w0 w1 n1 m1 o1 f1 w2 w3).mono fun e W' ⟨he, bel⟩ => ?_
  subst he
  exact ⟨_, rfl, _, _, _, [], _, [], hW', trodAll_mk1 (shut_bool Try.underlying4 _), (trodAll_cons_mk (shut_int Try.underlying5 w0) (trodAll_cons_mk (Below.trod laidOut (by kernel_rfl) (of_decide_eq_true (by kernel_rfl)) k1 bel lt1) (trodAll_cons_mk (Below.trod laidOut (by kernel_rfl) (of_decide_eq_true (by kernel_rfl)) k2 bel lt2) (trodAll_cons_mk (shut_int Try.underlying24 w3) trodAll_mk0)))), rfl, bel.frame _, fun h => by cases h⟩

theorem over : Rows.triggerNoneRow.holds Try.pinned (OpenSpec.ofChange Rows.triggerNoneSpec) :=
  OpenClaim.holds_of_wide 6 Try.f6 rfl rfl rfl rfl rfl rfl rfl ⟨rfl, rfl, rfl, rfl, rfl⟩ rfl rfl rfl rfl rfl (by kernel_rfl) Try.func6 (by kernel_rfl)
    (of_decide_eq_true (by kernel_rfl)) (by unfold Func.isWrapper; first | (rw [if_pos (by decide +kernel)]; kernel_rfl) | (rw [if_neg (by decide +kernel)]; exact ⟨rfl, rfl⟩))
    (fun os started H enc _ => lifted os started H enc)

/-- The given statement. -/
theorem proved : Rows.TriggerNoneSaid :=
  over
#print axioms proved
end Go.Proofs.Ytlhjnbommlaioaa.triggerNone
