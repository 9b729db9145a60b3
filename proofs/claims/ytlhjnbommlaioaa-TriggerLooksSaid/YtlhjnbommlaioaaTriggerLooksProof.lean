/-
  Of any acknowledgment the program tells which number it names, or why none, as the document defines it, and changes nothing. No conditions.
-/
import Derived.Test.YtlhjnbommlaioaaDeeds
import Derived.Test.YtlhjnbommlaioaaAckRow
import Derived.Test.YtlhjnbommlaioaaSpanRow
import Derived.Test.YtlhjnbommlaioaaRows
import Derived.Test.YtlhjnbommlaioaaRow
import Derived.WalkKit
import Derived.ProofKit
import Derived.OpenShut
import Derived.ShutString
import Derived.ChangeOld
import Derived.Below
import Derived.Test.YtlhjnbommlaioaaTrigAlive
namespace Go.Proofs.Ytlhjnbommlaioaa.triggerLooks
open Go.ChangeShapes Go.WideShapes Go.ChangeAt Go.RowKit
open Go.ChangeMaps (open_string shut_string)
open Go.Proofs.Ytlhjnbommlaioaa.Base Go.Proofs.Ytlhjnbommlaioaa.SpanPlain Go.Proofs.Ytlhjnbommlaioaa.AckPlain
set_option linter.unusedVariables false

theorem own : ownKnob Try.prog.godebug = none := by kernel_rfl
theorem laidOut : laidOutB Try.prog = true := by kernel_rfl

open Go.Proofs.Ytlhjnbommlaioaa.Led Go.Proofs.Ytlhjnbommlaioaa.LedPlain Go.Proofs.Ytlhjnbommlaioaa.SpanRef
open Go.Proofs.Ytlhjnbommlaioaa.AckPlain (K)
set_option maxHeartbeats 2000000 in
theorem walk (a0 : Int) (a1 : Option Addr) (len1 cap1 : Nat) (z1 : List Dd) (x2 : K) (a2 : Option Addr) (len2 cap2 : Nat) (b2 : Option Addr) (lem2 cam2 : Nat) (w : World) (w0 : (Lit.int .u8 a0).wf = true) (w1 : Deeds w a1 z1) (n1 : z1.length = len1) (m1 : len1 ≤ cap1) (o1 : cap1 ≤ maxLen) (f1 : ∀ d ∈ z1, Fit d) (n2 : x2.spans.length = len2 ∧ len2 ≤ cap2 ∧ cap2 ≤ maxLen ∧ (a2 = none → len2 = 0 ∧ cap2 = 0) ∧ Spans w a2 x2.spans) (m2 : x2.marked.length = lem2 ∧ lem2 ≤ cam2 ∧ cam2 ≤ maxLen ∧ (b2 = none → lem2 = 0 ∧ cam2 = 0) ∧ Spans w b2 x2.marked) (f2 : Words9 x2) :
    Calls Try.prog 3 #[.int .u8 a0, .slice a1 len1 cap1, .agg #[.slice a2 len2 cap2, .slice b2 lem2 cam2, .int .u64 x2.trigger, .int .u64 x2.xor, .bool x2.parity]] w fun e w' => e = .returned (.bool true) ∧ Below w.heap.size w w' := by
  obtain ⟨p0, p1⟩ := Base.u8_of w0
  subst n1
  obtain ⟨hn, hn1, hn2, _, hsp⟩ := n2
  obtain ⟨hm, hm1, hm2, _, hmk⟩ := m2
  unfold maxLen at hn2 hm2
  obtain ⟨ff1, ff2, _, _⟩ := f2
  have hn' : len2 ≤ 9223372036854775807 := by omega
  have hm' : lem2 ≤ 9223372036854775807 := by omega
  go_enter Try.func3, Try.ntmps3
  go_upto_region 1 with fail
  have hB := Blk.new w #[.slice a2 len2 cap2, .slice b2 lem2 cam2, .int .u64 x2.trigger, .int .u64 x2.xor, .bool x2.parity] 26
  have hL := (Below.refl w.heap.size w).alloc (Nat.le_refl _) (.cells #[.slice a2 len2 cap2, .slice b2 lem2 cam2, .int .u64 x2.trigger, .int .u64 x2.xor, .bool x2.parity] 26)
  have hD : Deeds (w.alloc (.cells #[.slice a2 len2 cap2, .slice b2 lem2 cam2, .int .u64 x2.trigger, .int .u64 x2.xor, .bool x2.parity] 26)) a1 z1 := w1.below hL
  have hs : Spans (w.alloc (.cells #[.slice a2 len2 cap2, .slice b2 lem2 cam2, .int .u64 x2.trigger, .int .u64 x2.xor, .bool x2.parity] 26)) a2 x2.spans := Row.below hsp hL
  have ht : Spans (w.alloc (.cells #[.slice a2 len2 cap2, .slice b2 lem2 cam2, .int .u64 x2.trigger, .int .u64 x2.xor, .bool x2.parity] 26)) b2 x2.marked := Row.below hmk hL
  generalize w.alloc (.cells #[.slice a2 len2 cap2, .slice b2 lem2 cam2, .int .u64 x2.trigger, .int .u64 x2.xor, .bool x2.parity] 26) = V at *
  have CM := make_any (a0 % 40) 4611686018427387903 (by omega) (by omega) (by decide) (by decide) a1 z1.length cap1 z1 V rfl m1 o1 f1 hD
  have CA := fun U => alive_trig U
  go_wp2_with (first
    | (go_at_call 7; refine CM.mono ?_; rintro e u1 ⟨a, b, S, rfl, P1, hS, L1⟩; have M1 := (hL.trans (L1.mono hL.size)).alloc (Base.next hL L1).size (.cells #[.pointer (some a), .pointer (some ⟨b, 0, none⟩)] 30); have T1 := Blk.new u1 #[.pointer (some a), .pointer (some ⟨b, 0, none⟩)] 30; have LA := (Below.refl u1.heap.size u1).alloc (Nat.le_refl _) (.cells #[.pointer (some a), .pointer (some ⟨b, 0, none⟩)] 30); have B1 := (hB.below L1 hB.lt).below LA (hB.below L1 hB.lt).lt; have s1 := Row.below (Row.below hs L1) LA; have t1 := Row.below (Row.below ht L1) LA; replace P1 := P1.below LA; clear CM)
    | (go_at_call 8; (with_reducible refine (CA _).mono ?_); rintro e u2 ⟨rfl, L2⟩; have M2 := M1.trans (L2.mono M1.size); have T2 := T1.below L2 T1.lt; have c2 : u2.cell? ⟨u1.heap.size, 0, none⟩ = some (.pointer (some a)) := T2.cell 0; have P2 := P1.below L2; have B2 := B1.below L2 B1.lt; have s2 := Row.below s1 L2; have t2 := Row.below t1 L2; obtain ⟨x0, x1, x2', x3, x4⟩ := AckMay.blk5 B2; have C1 := look_any P2.led (by have := made_len (a0 % 40) 4611686018427387903 z1; omega) x2 a2 b2 len2 cap2 lem2 cam2 hn hm hn' hm' ff1 ff2 s2 t2; clear CA T1 B1 P1 s1 t1)
    | (go_at_call 9; (with_reducible refine C1.mono ?_); rintro e u3 ⟨rfl, L3⟩; have M3 := M2.trans (L3.mono M2.size); have T3 := T2.below L3 T2.lt; have c3 : u3.cell? ⟨u1.heap.size, 1, none⟩ = some (.pointer (some ⟨b, 0, none⟩)) := T3.cell 1; have P3 := P2.below L3; have B3 := B2.below L3 B2.lt; have s3 := Row.below s2 L3; have t3 := Row.below t2 L3; obtain ⟨y0, y1, y2, y3, y4⟩ := AckMay.blk5 B3; have C2 := ref_look P3.rf x2 a2 b2 len2 cap2 lem2 cam2 hn hm hn' hm' ff1 ff2 s3 t3; clear C1)
    | (go_at_call 10; (with_reducible refine C2.mono ?_); rintro e u4 ⟨rfl, L4⟩; have M4 := M3.trans (L4.mono M3.size); have T4 := T3.below L4 T3.lt; have c4 : u4.cell? ⟨u1.heap.size, 0, none⟩ = some (.pointer (some a)) := T4.cell 0; have d4 : u4.cell? ⟨u1.heap.size, 1, none⟩ = some (.pointer (some ⟨b, 0, none⟩)) := T4.cell 1; have P4 := P3.below L4; have C3 := two_same P4 (by have := made_len (a0 % 40) 4611686018427387903 z1; omega); clear C2)
    | (go_at_call 11; (with_reducible refine C3.mono ?_); rintro e u5 ⟨rfl, L5⟩; have M5 := M4.trans (L5.mono M4.size)))
  all_goals go_ret
  all_goals exact ⟨rfl, M5⟩

set_option maxRecDepth 100000 in
theorem lifted (os : Os) (started : os.Started) (H : Type) (enc : TypeId × Value → H) :
    ReturnsInHanded {} Try.checked os 3 .any (Rows.triggerLooksSpec.pre6 enc Try.prog Try.f3 Rows.triggerLooksRow.domain false) (Rows.triggerLooksSpec.post enc Try.prog Try.f3 false true false false) := by
  refine returnsInHanded_of_change (C := Try.checked) own started (by kernel_rfl) Try.func3
    (ChangeSpec.witness6 (enc := enc) (C := Try.checked) false ⟨#[], #[.int .u8 0, .slice none 0 0, .agg #[.slice none 0 0, .slice none 0 0, .int .u64 0, .int .u64 0, .bool false]], []⟩ 8 (by kernel_rfl) (by kernel_rfl) (by kernel_rfl) (by kernel_rfl)) ?_
  intro W base args ds gs before hval0 hW hcnd _
  have hval : ∀ (j : Nat) t v, Try.f3.params[j]? = some t → args[j]? = some v → Value.okWide Try.prog W .any base t v := hval0
  have hW' := hW
  obtain ⟨p, q, hA0, hV, rfl, hfz, hnd⟩ := hW
  have hA : DataW.TrodAll enc Try.prog W 0 (fun _ => true) true Try.f3.params.toList args.toList ds p := hA0
  rw [Try.params3] at hA hval
  obtain ⟨v0, vs0, d0, ds0, p0, q0, hargs, rfl, rfl, h0, r0⟩ := trodAll_cons hA
  obtain ⟨v1, vs1, d1, ds1, p1, q1, rfl, rfl, rfl, h1, r1⟩ := trodAll_cons r0
  obtain ⟨v2, vs2, d2, ds2, p2, q2, rfl, rfl, rfl, h2, r2⟩ := trodAll_cons r1
  obtain ⟨rfl, rfl, rfl⟩ := trodAll_nil r2
  obtain rfl : args = #[v0, v1, v2] := by cases args; simp_all
  obtain ⟨rfl, rfl⟩ := trodVars_none hV
  obtain ⟨a0, rfl, rfl, rfl, w0⟩ := open_int Try.underlying5 (hval 0 5 v0 rfl rfl) h0
  obtain ⟨a1, len1, cap1, rfl⟩ := okWide_slice Try.underlying22 (hval 1 22 v1 rfl rfl)
  have k1 := h1
  have lt1 : ∀ x ∈ p1, x.block < W.heap.size := by obtain ⟨m, hm⟩ := k1; exact DataW.trod_lt m _ _ _ hm
  obtain ⟨z1, w1, n1, m1, o1, f1⟩ : ∃ zs, Deeds W a1 zs ∧ zs.length = len1 ∧ len1 ≤ cap1 ∧ cap1 ≤ maxLen ∧ (∀ d ∈ zs, Fit d) := by
    obtain ⟨fuel, hf⟩ := h1
    rcases open_deeds Try.underlying22 Try.underlying55 (by kernel_rfl) (by kernel_rfl) Try.underlying3 Try.underlying24 Try.underlying24 hf with ⟨hcs, hx⟩ | ⟨x, l, c, zs, E, S, hcs, hl, hm, hz, hx, hE, hS, hsp, hwz⟩
    · simp [Value.cells] at hcs
      obtain ⟨rfl, rfl, rfl⟩ := hcs
      exact ⟨[], Deeds.nil _ _, rfl, Nat.le_refl _, Nat.zero_le _, fun _ h => by cases h⟩
    · simp [Value.cells] at hcs
      obtain ⟨rfl, rfl, rfl⟩ := hcs
      exact ⟨zs, hsp, hz, hl, hm, hwz⟩
  have k2 := h2
  have lt2 : ∀ x ∈ p2, x.block < W.heap.size := by obtain ⟨m, hm⟩ := k2; exact DataW.trod_lt m _ _ _ hm
  obtain ⟨x2, a2, len2, cap2, b2, lem2, cam2, rfl, n2, m2, f2⟩ := open_ack Try.underlying26 (by kernel_rfl) (by kernel_rfl) Try.underlying23 Try.underlying23 Try.underlying24 Try.underlying24 Try.underlying4 Try.underlying61 (by kernel_rfl) rfl rfl (by kernel_rfl) (by kernel_rfl) Try.underlying24 Try.underlying24 (hval 2 26 v2 rfl rfl) h2
  clear hA0 hval0
  refine (walk a0 a1 len1 cap1 z1 x2 a2 len2 cap2 b2 lem2 cam2 W w0 w1 n1 m1 o1 f1 n2 m2 f2).mono fun e W' ⟨he, bel⟩ => ?_
  subst he
  exact ⟨_, rfl, _, _, _, [], _, [], hW', trodAll_mk1 (shut_bool Try.underlying4 _), (trodAll_cons_mk (shut_int Try.underlying5 w0) (trodAll_cons_mk (Below.trod laidOut (by kernel_rfl) (of_decide_eq_true (by kernel_rfl)) k1 bel lt1) (trodAll_cons_mk (Below.trod laidOut (by kernel_rfl) (of_decide_eq_true (by kernel_rfl)) k2 bel lt2) trodAll_mk0))), rfl, bel.frame _, fun h => by cases h⟩

theorem over : Rows.triggerLooksRow.holds Try.pinned (OpenSpec.ofChange Rows.triggerLooksSpec) :=
  OpenClaim.holds_of_wide 3 Try.f3 rfl rfl rfl rfl rfl rfl rfl ⟨rfl, rfl, rfl, rfl, rfl⟩ rfl rfl rfl rfl rfl (by kernel_rfl) Try.func3 (by kernel_rfl)
    (of_decide_eq_true (by kernel_rfl)) (by unfold Func.isWrapper; first | (rw [if_pos (by decide +kernel)]; kernel_rfl) | (rw [if_neg (by decide +kernel)]; exact ⟨rfl, rfl⟩))
    (fun os started H enc _ => lifted os started H enc)

/-- The given statement. -/
theorem proved : Rows.TriggerLooksSaid :=
  over
#print axioms proved
end Go.Proofs.Ytlhjnbommlaioaa.triggerLooks
