/-
  What the program names of an acknowledgment near what is there is there. No conditions.
-/
import Derived.Test.YtlhjnbommlaioaaQuad
import Derived.Test.YtlhjnbommlaioaaDeeds
import Derived.Test.YtlhjnbommlaioaaRows
import Derived.Test.YtlhjnbommlaioaaRow
import Derived.WalkKit
import Derived.ProofKit
import Derived.OpenShut
import Derived.ShutString
import Derived.ChangeOld
import Derived.Below
import Derived.Test.YtlhjnbommlaioaaTrigAlive
import Derived.Test.YtlhjnbommlaioaaTrigAsk
import Derived.Test.YtlhjnbommlaioaaTrigNamed
namespace Go.Proofs.Ytlhjnbommlaioaa.triggerNear
open Go.ChangeShapes Go.WideShapes Go.ChangeAt Go.RowKit
open Go.ChangeMaps (open_string shut_string)
open Go.Proofs.Ytlhjnbommlaioaa.Base
set_option linter.unusedVariables false

theorem own : ownKnob Try.prog.godebug = none := by kernel_rfl
theorem laidOut : laidOutB Try.prog = true := by kernel_rfl

open Go.Proofs.Ytlhjnbommlaioaa.Led Go.Proofs.Ytlhjnbommlaioaa.LedPlain Go.Proofs.Ytlhjnbommlaioaa.SpanRef
open Go.Proofs.Ytlhjnbommlaioaa.AckPlain (K)
set_option maxHeartbeats 2000000 in
theorem walk (a0 : Int) (a1 : Option Addr) (len1 cap1 : Nat) (z1 : List Dd) (c20 c21 c22 c23 : Int) (a3 : Int) (w : World) (w0 : (Lit.int .u8 a0).wf = true) (w1 : Deeds w a1 z1) (n1 : z1.length = len1) (m1 : len1 ≤ cap1) (o1 : cap1 ≤ maxLen) (f1 : ∀ d ∈ z1, Fit d) (w2 : (Lit.int .u16 c20).wf = true ∧ (Lit.int .u16 c21).wf = true ∧ (Lit.int .u16 c22).wf = true ∧ (Lit.int .u16 c23).wf = true) (w3 : (Lit.int .u8 a3).wf = true) :
    Calls Try.prog 4 #[.int .u8 a0, .slice a1 len1 cap1, .agg #[.int .u16 c20, .int .u16 c21, .int .u16 c22, .int .u16 c23], .int .u8 a3] w fun e w' => e = .returned (.bool true) ∧ Below w.heap.size w w' := by
  obtain ⟨p0, p1⟩ := Base.u8_of w0
  obtain ⟨⟨y0, y0'⟩, ⟨y1, y1'⟩, ⟨y2, y2'⟩, ⟨y3, y3'⟩⟩ : (0 ≤ c20 ∧ c20 ≤ 65535) ∧ (0 ≤ c21 ∧ c21 ≤ 65535) ∧ (0 ≤ c22 ∧ c22 ≤ 65535) ∧ (0 ≤ c23 ∧ c23 ≤ 65535) := ⟨Base.u16_of w2.1, Base.u16_of w2.2.1, Base.u16_of w2.2.2.1, Base.u16_of w2.2.2.2⟩
  subst n1
  obtain ⟨x0, x1⟩ := Base.u8_of w3
  go_enter Try.func4, Try.ntmps4
  go_upto_region 1 with fail
  refine at_world ?_
  intro V hV
  obtain ⟨hK, hB⟩ : Blk V w.heap.size #[.int .u16 c20, .int .u16 c21, .int .u16 c22, .int .u16 c23] 39 ∧ Below w.heap.size w V := by
    subst hV
    exact ⟨Blk.new _ _ _, (Below.refl _ _).alloc (Nat.le_refl _) _⟩
  clear hV
  have CM := make_any (a0 % 40) 4611686018427387903 (by omega) (by omega) (by decide) (by decide) a1 z1.length cap1 z1 V rfl m1 o1 f1 (w1.below hB)
  have CA := fun U => alive_trig U
  have hgl := made_len (a0 % 40) 4611686018427387903 z1
  have hOk : ∀ S w' a b, Pair S w' a b (madeG (a0 % 40) 4611686018427387903 z1) → Ok (madeG (a0 % 40) 4611686018427387903 z1) := fun _ _ _ _ h => h.ok
  generalize madeG (a0 % 40) 4611686018427387903 z1 = g at *
  go_upto_region 5 with (first
    | (go_at_call 7; refine CM.mono ?_; rintro e u1 ⟨a, b, S, rfl, P1, hS, L1⟩; have hOK := hOk _ _ _ _ P1; have hM := hB.trans (L1.mono hB.size); have M1 := hM.alloc hM.size (.cells #[.pointer (some a), .pointer (some ⟨b, 0, none⟩)] 30); have T1 := Blk.new u1 #[.pointer (some a), .pointer (some ⟨b, 0, none⟩)] 30; have LA := (Below.refl u1.heap.size u1).alloc (Nat.le_refl _) (.cells #[.pointer (some a), .pointer (some ⟨b, 0, none⟩)] 30); have K1 := (hK.below L1 hK.lt).below LA (hK.below L1 hK.lt).lt; replace P1 := P1.below LA; clear CM hOk)
    | (go_at_call 8; (with_reducible refine (CA _).mono ?_); rintro e u2 ⟨rfl, L2⟩; have M2 := M1.trans (L2.mono M1.size); have T2 := T1.below L2 T1.lt; have K2 := K1.below L2 K1.lt; have d2 : u2.cell? ⟨u1.heap.size, 0, none⟩ = some (.pointer (some a)) := T2.cell 0; have e2 : u2.cell? ⟨u1.heap.size, 1, none⟩ = some (.pointer (some ⟨b, 0, none⟩)) := T2.cell 1; have k0 : u2.cell? ⟨w.heap.size, 0, none⟩ = some (.int .u16 c20) := K2.cell 0; have k1 : u2.cell? ⟨w.heap.size, 1, none⟩ = some (.int .u16 c21) := K2.cell 1; have k2 : u2.cell? ⟨w.heap.size, 2, none⟩ = some (.int .u16 c22) := K2.cell 2; have k3 : u2.cell? ⟨w.heap.size, 3, none⟩ = some (.int .u16 c23) := K2.cell 3; have P2 := P1.below L2; have CK := ask_any (a := a) P2.rf (by omega) c20 c21 c22 c23 y0 y0' y1 y1' y2 y2' y3 y3' (a3 % 9) (by omega) (by omega); clear CA T1 P1 K1)
    | (go_at_call 12; (with_reducible refine CK.mono ?_); rintro e u3 ⟨p, c, l, tr, xr, rfl, hlc, rowIn3, hfl, hl1, hl2, hgd, L3⟩; have s3 : Spans u3 p l := RowIn.row rowIn3; have M3 := M2.trans (L3.mono M2.size); have T3 := T2.below L3 T2.lt; have P3 := P2.below L3; clear CK T2 K2 P2 d2 e2 k0 k1 k2 k3))
  refine at_world ?_
  intro W hW
  obtain ⟨T4, A4, P4, s4, M4⟩ : Blk W u1.heap.size #[.pointer (some a), .pointer (some ⟨b, 0, none⟩)] 30 ∧ Blk W u3.heap.size #[.slice p l.length c, .slice none 0 0, .int .u64 tr, .int .u64 xr, .bool false] 26 ∧ Pair S W a b g ∧ Spans W p l ∧ Below w.heap.size w W := by
    subst hW
    exact ⟨T3.alloc _, Blk.new _ _ _, P3.below ((Below.refl _ _).alloc (Nat.le_refl _) _), Row.below s3 ((Below.refl _ _).alloc (Nat.le_refl _) _), M3.alloc M3.size _⟩
  clear hW P3 T3 L3 s3 hM LA L1 L2 w1
  have d4 : W.cell? ⟨u1.heap.size, 0, none⟩ = some (.pointer (some a)) := T4.cell 0
  obtain ⟨z0, z1', z2, z3, z4⟩ := AckMay.blk5 A4
  have C1 := look_any P4.led (by omega) ⟨l, [], tr, xr, false⟩ p none l.length c 0 0 rfl rfl (by omega) (by decide) hfl (fun _ h => by cases h) s4 (Spans.nil _ _)
  have C2 := fun U (hU : Below W.heap.size W U) => ref_look (P4.below hU).rf ⟨l, [], tr, xr, false⟩ p none l.length c 0 0 rfl rfl (by omega) (by decide) hfl (fun _ h => by cases h) (Row.below s4 hU) (Spans.nil _ _)
  have C4 := fun U (hU : Below W.heap.size W U) => two_same (P4.below hU) (by omega)
  rcases look_cases hOK ⟨l, [], tr, xr, false⟩ with ⟨h1, h2⟩ | ⟨i, i1, i2, h1, h2⟩
  · have hr : (lookG g ⟨l, [], tr, xr, false⟩).2 ≠ 0 := by omega
    rw [h1] at C1 C2
    generalize (lookG g ⟨l, [], tr, xr, false⟩).2 = r at *
    have C3 := fun U (hU : Below W.heap.size W U) => get_any (P4.below hU).led 0 (by decide) (by decide)
    generalize getS g 0 = s at *
    generalize hasN g 0 = hs at *
    go_upto_region 8 with (first
      | (go_at_call 9; (with_reducible refine C1.mono ?_); rintro e u5 ⟨rfl, L5⟩; have N5 := L5; have T5 := T4.below L5 T4.lt; have d5 : u5.cell? ⟨u1.heap.size, 1, none⟩ = some (.pointer (some ⟨b, 0, none⟩)) := T5.cell 1; obtain ⟨f0, f1', f2, f3, f4⟩ := AckMay.blk5 (A4.below L5 A4.lt); clear C1)
      | (go_at_call 10; (with_reducible refine (C2 _ N5).mono ?_); rintro e u6 ⟨rfl, L6⟩; have N6 := Base.next N5 L6; have T6 := T5.below L6 T5.lt; have d6 : u6.cell? ⟨u1.heap.size, 0, none⟩ = some (.pointer (some a)) := T6.cell 0; clear C2)
      | (go_at_call 13; (with_reducible refine (C3 _ N6).mono ?_); rintro e u7 ⟨rfl, L7⟩; have N7 := Base.next N6 L7; clear C3))
    refine at_world ?_
    intro X hX
    obtain ⟨S8, N8⟩ : Blk X u7.heap.size #[.int .u64 s.pn, .int .u64 s.off, .int .u64 s.len, .int .u64 s.nonce, .int .u64 s.time, .bool s.coin, .bool s.used, .int .i64 s.state] 42 ∧ Below W.heap.size W X := by
      subst hX
      exact ⟨Blk.new _ _ _, N7.alloc N7.size _⟩
    clear hX
    have A8 := A4.below N8 A4.lt
    have T8 := T4.below N8 T4.lt
    have s8 := Row.below s4 N8
    have C5 := C4 X N8
    have M8 := M4.trans (N8.mono M4.size)
    have d8 : X.cell? ⟨u1.heap.size, 0, none⟩ = some (.pointer (some a)) := T8.cell 0
    have e8 : X.cell? ⟨u1.heap.size, 1, none⟩ = some (.pointer (some ⟨b, 0, none⟩)) := T8.cell 1
    obtain ⟨g0, g1, g2, g3, g4⟩ := AckMay.blk5 A8
    have v3 : X.cell? ⟨u7.heap.size, 3, none⟩ = some (.int .u64 s.nonce) := S8.cell 3
    have v6 : X.cell? ⟨u7.heap.size, 6, none⟩ = some (.bool s.used) := S8.cell 6
    have v7 : X.cell? ⟨u7.heap.size, 7, none⟩ = some (.int .i64 s.state) := S8.cell 7
    go_wp2_with (go_at_call 11; (with_reducible refine C5.mono ?_); rintro e u9 ⟨rfl, L9⟩; have M9 := M8.trans (L9.mono M8.size))
    all_goals go_ret
    all_goals exact ⟨rfl, M9⟩
  · rw [h1] at C1 C2
    have ht : hasN g (i : Int) = true := by unfold hasN keptN; simp; omega
    have hs : getS g (i : Int) = atN g i := by unfold getS; rw [if_pos (by unfold keptN; omega)]; simp
    have C3 := fun U (hU : Below W.heap.size W U) => get_any (P4.below hU).led (i : Int) (by omega) (by have := hOK.n1; have := hOK.l1; omega)
    rw [ht, hs] at C3
    obtain ⟨n1, n2, n3, n4⟩ := names_parts h2
    obtain ⟨e1, _⟩ := hOK.each i i2
    rw [e1] at n4
    have n4 : SpanPlain.has l (i : Int) = true := n4
    replace n3 : (atN g i).nonce = tr := n3
    generalize atN g i = s at *
    replace n2 := Lib.hid n2
    replace n3 := Lib.hid n3
    replace e1 := Lib.hid e1
    go_upto_region 8 with (first
      | (go_at_call 9; (with_reducible refine C1.mono ?_); rintro e u5 ⟨rfl, L5⟩; have N5 := L5; have T5 := T4.below L5 T4.lt; have d5 : u5.cell? ⟨u1.heap.size, 1, none⟩ = some (.pointer (some ⟨b, 0, none⟩)) := T5.cell 1; obtain ⟨f0, f1', f2, f3, f4⟩ := AckMay.blk5 (A4.below L5 A4.lt); clear C1)
      | (go_at_call 10; (with_reducible refine (C2 _ N5).mono ?_); rintro e u6 ⟨rfl, L6⟩; have N6 := Base.next N5 L6; have T6 := T5.below L6 T5.lt; have d6 : u6.cell? ⟨u1.heap.size, 0, none⟩ = some (.pointer (some a)) := T6.cell 0; clear C2)
      | (go_at_call 13; (with_reducible refine (C3 _ N6).mono ?_); rintro e u7 ⟨rfl, L7⟩; have N7 := Base.next N6 L7; clear C3))
    refine at_world ?_
    intro X hX
    obtain ⟨S8, N8⟩ : Blk X u7.heap.size #[.int .u64 s.pn, .int .u64 s.off, .int .u64 s.len, .int .u64 s.nonce, .int .u64 s.time, .bool s.coin, .bool s.used, .int .i64 s.state] 42 ∧ Below W.heap.size W X := by
      subst hX
      exact ⟨Blk.new _ _ _, N7.alloc N7.size _⟩
    clear hX
    have A8 := A4.below N8 A4.lt
    have T8 := T4.below N8 T4.lt
    have s8 := Row.below s4 N8
    have C5 := C4 X N8
    have M8 := M4.trans (N8.mono M4.size)
    have d8 : X.cell? ⟨u1.heap.size, 0, none⟩ = some (.pointer (some a)) := T8.cell 0
    have e8 : X.cell? ⟨u1.heap.size, 1, none⟩ = some (.pointer (some ⟨b, 0, none⟩)) := T8.cell 1
    obtain ⟨g0, g1, g2, g3, g4⟩ := AckMay.blk5 A8
    have v3 : X.cell? ⟨u7.heap.size, 3, none⟩ = some (.int .u64 s.nonce) := S8.cell 3
    have v6 : X.cell? ⟨u7.heap.size, 6, none⟩ = some (.bool s.used) := S8.cell 6
    have v7 : X.cell? ⟨u7.heap.size, 7, none⟩ = some (.int .i64 s.state) := S8.cell 7
    have C6 := SpanRef.ref_has p l.length c l (i : Int) X rfl (by omega) s8
    rw [n4] at C6
    rw [n2.out] at v6
    rw [n3.out] at v3
    go_wp2_with (first
      | (go_at_call 14; (with_reducible refine C6.mono ?_); rintro e u10 ⟨rfl, rfl⟩)
      | (go_at_call 11; (with_reducible refine C5.mono ?_); rintro e u9 ⟨rfl, L9⟩; have M9 := M8.trans (L9.mono M8.size)))
    all_goals go_ret
    all_goals exact ⟨rfl, M9⟩

set_option maxRecDepth 100000 in
theorem lifted (os : Os) (started : os.Started) (H : Type) (enc : TypeId × Value → H) :
    ReturnsInHanded {} Try.checked os 4 .any (Rows.triggerNearSpec.pre6 enc Try.prog Try.f4 Rows.triggerNearRow.domain false) (Rows.triggerNearSpec.post enc Try.prog Try.f4 false true false false) := by
  refine returnsInHanded_of_change (C := Try.checked) own started (by kernel_rfl) Try.func4
    (ChangeSpec.witness6 (enc := enc) (C := Try.checked) false ⟨#[], #[.int .u8 0, .slice none 0 0, .agg #[.int .u16 0, .int .u16 0, .int .u16 0, .int .u16 0], .int .u8 0], []⟩ 8 (by kernel_rfl) (by kernel_rfl) (by kernel_rfl) (by kernel_rfl)) ?_
  intro W base args ds gs before hval0 hW hcnd _
  have hval : ∀ (j : Nat) t v, Try.f4.params[j]? = some t → args[j]? = some v → Value.okWide Try.prog W .any base t v := hval0
  have hW' := hW
  obtain ⟨p, q, hA0, hV, rfl, hfz, hnd⟩ := hW
  have hA : DataW.TrodAll enc Try.prog W 0 (fun _ => true) true Try.f4.params.toList args.toList ds p := hA0
  rw [Try.params4] at hA hval
  obtain ⟨v0, vs0, d0, ds0, p0, q0, hargs, rfl, rfl, h0, r0⟩ := trodAll_cons hA
  obtain ⟨v1, vs1, d1, ds1, p1, q1, rfl, rfl, rfl, h1, r1⟩ := trodAll_cons r0
  obtain ⟨v2, vs2, d2, ds2, p2, q2, rfl, rfl, rfl, h2, r2⟩ := trodAll_cons r1
  obtain ⟨v3, vs3, d3, ds3, p3, q3, rfl, rfl, rfl, h3, r3⟩ := trodAll_cons r2
  obtain ⟨rfl, rfl, rfl⟩ := trodAll_nil r3
  obtain rfl : args = #[v0, v1, v2, v3] := by cases args; simp_all
  obtain ⟨rfl, rfl⟩ := trodVars_none hV
  obtain ⟨a0, rfl, rfl, rfl, w0⟩ := open_int Try.underlying5 (hval 0 5 v0 rfl rfl) h0
  obtain ⟨a1, len1, cap1, rfl⟩ := okWide_slice Try.underlying22 (hval 1 22 v1 rfl rfl)
  have k1 := h1
  have lt1 : ∀ x ∈ p1, x.block < W.heap.size := by obtain ⟨m, hm⟩ := k1; exact DataW.trod_lt m _ _ _ hm
  obtain ⟨z1, w1, n1, m1, o1, f1⟩ : ∃ zs, Deeds W a1 zs ∧ zs.length = len1 ∧ len1 ≤ cap1 ∧ cap1 ≤ maxLen ∧ (∀ d ∈ zs, Fit d) := by
    obtain ⟨fuel, hf⟩ := h1
    rcases open_deeds Try.underlying22 Try.underlying55 (by kernel_rfl) (by kernel_rfl) Try.underlying3 Try.underlying24 Try.underlying24 hf with ⟨hcs, hx⟩ | ⟨x, l, c, zs, E, S, hcs, hl, hm, hz, hx, hE, hS, hsp, hwz⟩
    · simp [Value.cells] at hcs
      obtain ⟨rfl, rfl, rfl⟩ := hcs
      exact ⟨[], Deeds.nil _ _, rfl, Nat.le_refl _, Nat.zero_le _, fun _ h => by cases h⟩
    · simp [Value.cells] at hcs
      obtain ⟨rfl, rfl, rfl⟩ := hcs
      exact ⟨zs, hsp, hz, hl, hm, hwz⟩
  have k2 := h2
  have lt2 : ∀ x ∈ p2, x.block < W.heap.size := by obtain ⟨m, hm⟩ := k2; exact DataW.trod_lt m _ _ _ hm
  obtain ⟨c20, c21, c22, c23, rfl, w2⟩ := open_quad Try.underlying39 Try.underlying38 (by kernel_rfl) (by kernel_rfl) (by kernel_rfl) (hval 2 39 v2 rfl rfl) h2
  obtain ⟨a3, rfl, rfl, rfl, w3⟩ := open_int Try.underlying5 (hval 3 5 v3 rfl rfl) h3
  clear hA0 hval0
  refine (walk a0 a1 len1 cap1 z1 c20 c21 c22 c23 a3 W w0 w1 n1 m1 o1 f1 w2 w3).mono fun e W' ⟨he, bel⟩ => ?_
  subst he
  exact ⟨_, rfl, _, _, _, [], _, [], hW', trodAll_mk1 (shut_bool Try.underlying4 _), (trodAll_cons_mk (shut_int Try.underlying5 w0) (trodAll_cons_mk (Below.trod laidOut (by kernel_rfl) (of_decide_eq_true (by kernel_rfl)) k1 bel lt1) (trodAll_cons_mk (Below.trod laidOut (by kernel_rfl) (of_decide_eq_true (by kernel_rfl)) k2 bel lt2) (trodAll_cons_mk (shut_int Try.underlying5 w3) trodAll_mk0)))), rfl, bel.frame _, fun h => by cases h⟩

theorem over : Rows.triggerNearRow.holds Try.pinned (OpenSpec.ofChange Rows.triggerNearSpec) :=
  OpenClaim.holds_of_wide 4 Try.f4 rfl rfl rfl rfl rfl rfl rfl ⟨rfl, rfl, rfl, rfl, rfl⟩ rfl rfl rfl rfl rfl (by kernel_rfl) Try.func4 (by kernel_rfl)
    (of_decide_eq_true (by kernel_rfl)) (by unfold Func.isWrapper; first | (rw [if_pos (by decide +kernel)]; kernel_rfl) | (rw [if_neg (by decide +kernel)]; exact ⟨rfl, rfl⟩))
    (fun os started H enc _ => lifted os started H enc)

/-- The given statement. -/
theorem proved : Rows.TriggerNearSaid :=
  over
#print axioms proved
end Go.Proofs.Ytlhjnbommlaioaa.triggerNear
