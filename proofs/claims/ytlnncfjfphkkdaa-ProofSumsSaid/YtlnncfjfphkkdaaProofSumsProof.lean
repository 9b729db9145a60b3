/-
  Of any claims the program tells what their nonces and coins come to, or that nothing does, as the document defines it, and changes nothing. No conditions beside the form's own bound on the slices that came in.
-/
import Derived.Test.YtlnncfjfphkkdaaM1
import Derived.Test.YtlnncfjfphkkdaaM3
import Derived.SizedLaws
import Derived.Test.YtlnncfjfphkkdaaRows
import Derived.Test.YtlnncfjfphkkdaaRow
import Derived.WalkKit
import Derived.ProofKit
import Derived.OpenShut
import Derived.ShutString
import Derived.ChangeOld
import Derived.Below
import Derived.Test.YtlnncfjfphkkdaaProofAlive
namespace Go.Proofs.Ytlnncfjfphkkdaa.proofSums
open Go.ChangeShapes Go.WideShapes Go.ChangeAt Go.RowKit
open Go.ChangeMaps (open_string shut_string)
open Go.Proofs.Ytlnncfjfphkkdaa.Base Go.Proofs.Ytlnncfjfphkkdaa.SpanPlain
set_option linter.unusedVariables false
set_option linter.unusedSimpArgs false

theorem own : ownKnob Try.prog.godebug = none := by kernel_rfl
theorem laidOut : laidOutB Try.prog = true := by kernel_rfl

open Go.Proofs.Ytlnncfjfphkkdaa.Led Go.Proofs.Ytlnncfjfphkkdaa.LedPlain Go.Proofs.Ytlnncfjfphkkdaa.SpanPlain Go.Proofs.Ytlnncfjfphkkdaa.SpanRef
open Go.Proofs.Ytlnncfjfphkkdaa.AckPlain (K)
set_option maxHeartbeats 2000000 in
theorem walk (a0 : Int) (a1 : Option Addr) (len1 cap1 : Nat) (z1 : List Dd) (a2 : Option Addr) (len2 cap2 : Nat) (z2 : List Sp) (a3 : Option Addr) (len3 cap3 : Nat) (z3 : List Sp) (w : World) (w0 : (Lit.int .u8 a0).wf = true) (w1 : Deeds w a1 z1) (n1 : z1.length = len1) (m1 : len1 ≤ cap1) (o1 : cap1 ≤ maxLen) (f1 : ∀ d ∈ z1, Fit d) (w2 : Spans w a2 z2) (n2 : z2.length = len2) (m2 : len2 ≤ cap2) (o2 : cap2 ≤ maxLen) (f2 : ∀ s ∈ z2, (Lit.int .u64 s.1).wf = true ∧ (Lit.int .u64 s.2).wf = true) (b2 : cap2 * 16 ≤ 140737488351232) (e2 : a2 = none → len2 = 0 ∧ cap2 = 0) (w3 : Spans w a3 z3) (n3 : z3.length = len3) (m3 : len3 ≤ cap3) (o3 : cap3 ≤ maxLen) (f3 : ∀ s ∈ z3, (Lit.int .u64 s.1).wf = true ∧ (Lit.int .u64 s.2).wf = true) (b3 : cap3 * 16 ≤ 140737488351232) (e3 : a3 = none → len3 = 0 ∧ cap3 = 0) :
    Calls Try.prog 3 #[.int .u8 a0, .slice a1 len1 cap1, .slice a2 len2 cap2, .slice a3 len3 cap3] w fun e w' => e = .returned (.bool true) ∧ Below w.heap.size w w' := by
  obtain ⟨p0, p1⟩ := Base.u8_of w0
  subst n1
  have ff2 : Fits z2 := fun s hs => ⟨Base.u64_of (f2 s hs).1, Base.u64_of (f2 s hs).2⟩
  have ff3 : Fits z3 := fun s hs => ⟨Base.u64_of (f3 s hs).1, Base.u64_of (f3 s hs).2⟩
  have hl2 : len2 ≤ 8796093021952 := by omega
  have hl3 : len3 ≤ 8796093021952 := by omega
  have hgl := made_len (a0 % 40) 4611686018427387903 z1
  have hL := Below.refl w.heap.size w
  have CM := make_any (a0 % 40) 4611686018427387903 (by omega) (by omega) (by decide) (by decide) a1 z1.length cap1 z1 w rfl m1 o1 f1 w1
  have CA := fun U => alive_proof U
  generalize madeG (a0 % 40) 4611686018427387903 z1 = g at *
  go_enter Try.func3, Try.ntmps3
  go_wp2_with (first
    | (go_at_call 8; refine CM.mono ?_; rintro e u1 ⟨a, b, S, rfl, P1, hS, L1⟩; have hM := hL.trans (L1.mono hL.size); have M1 := hM.alloc hM.size (.cells #[.pointer (some a), .pointer (some ⟨b, 0, none⟩)] 27); have T1 := Blk.new u1 #[.pointer (some a), .pointer (some ⟨b, 0, none⟩)] 27; have LA := (Below.refl u1.heap.size u1).alloc (Nat.le_refl _) (.cells #[.pointer (some a), .pointer (some ⟨b, 0, none⟩)] 27); have P1 := P1.below LA; clear CM)
    | (go_at_call 9; (with_reducible refine (CA _).mono ?_); rintro e u2 ⟨rfl, L2⟩; have M2 := M1.trans (L2.mono M1.size); have T2 := T1.below L2 T1.lt; have c2 : u2.cell? ⟨u1.heap.size, 0, none⟩ = some (.pointer (some a)) := T2.cell 0; have P2 := P1.below L2; have C1 := sum_any P2.led (by omega) a2 a3 len2 cap2 len3 cap3 z2 z3 n2 n3 hl2 hl3 ff2 ff3 (Row.below w2 M2) (Row.below w3 M2); clear CA T1 P1)
    | (go_at_call 10; (with_reducible refine C1.mono ?_); rintro e u3 ⟨rfl, L3⟩; have M3 := M2.trans (L3.mono M2.size); have T3 := T2.below L3 T2.lt; have c3 : u3.cell? ⟨u1.heap.size, 1, none⟩ = some (.pointer (some ⟨b, 0, none⟩)) := T3.cell 1; have P3 := P2.below L3; have C2 := ref_sum P3.rf a2 a3 len2 cap2 len3 cap3 z2 z3 n2 n3 (by omega) (by omega) ff2 ff3 (Row.below w2 M3) (Row.below w3 M3); clear C1)
    | (go_at_call 11; (with_reducible refine C2.mono ?_); rintro e u4 ⟨rfl, L4⟩; have M4 := M3.trans (L4.mono M3.size); have T4 := T3.below L4 T3.lt; have c4 : u4.cell? ⟨u1.heap.size, 0, none⟩ = some (.pointer (some a)) := T4.cell 0; have d4 : u4.cell? ⟨u1.heap.size, 1, none⟩ = some (.pointer (some ⟨b, 0, none⟩)) := T4.cell 1; have P4 := P3.below L4; have C3 := two_same P4 (by omega); clear C2)
    | (go_at_call 12; (with_reducible refine C3.mono ?_); rintro e u5 ⟨rfl, L5⟩; have M5 := M4.trans (L5.mono M4.size)))
  all_goals go_ret
  all_goals exact ⟨rfl, M5⟩

set_option maxRecDepth 100000 in
theorem lifted (os : Os) (started : os.Started) (H : Type) (enc : TypeId × Value → H) :
    ReturnsInHanded {} Try.checked os 3 .any (Rows.proofSumsSpec.pre6 enc Try.prog Try.f3 Rows.proofSumsRow.domain false) (Rows.proofSumsSpec.post enc Try.prog Try.f3 false true false false) := by
  refine returnsInHanded_of_change_sized (C := Try.checked) own started (by kernel_rfl) Try.func3
    (ChangeSpec.witness6 (enc := enc) (C := Try.checked) false ⟨#[], #[.int .u8 0, .slice none 0 0, .slice none 0 0, .slice none 0 0], []⟩ 8 (by kernel_rfl) (by kernel_rfl) (by kernel_rfl) (by kernel_rfl)) ?_
  intro W base args ds gs before hval0 hW hcnd hsz0 _
  have hval : ∀ (j : Nat) t v, Try.f3.params[j]? = some t → args[j]? = some v → Value.okWide Try.prog W .any base t v := hval0
  have hW' := hW
  obtain ⟨p, q, hA0, hV, rfl, hfz, hnd⟩ := hW
  have hA : DataW.TrodAll enc Try.prog W 0 (fun _ => true) true Try.f3.params.toList args.toList ds p := hA0
  rw [Try.params3] at hA hval
  obtain ⟨v0, vs0, d0, ds0, p0, q0, hargs, rfl, rfl, h0, r0⟩ := trodAll_cons hA
  obtain ⟨v1, vs1, d1, ds1, p1, q1, rfl, rfl, rfl, h1, r1⟩ := trodAll_cons r0
  obtain ⟨v2, vs2, d2, ds2, p2, q2, rfl, rfl, rfl, h2, r2⟩ := trodAll_cons r1
  obtain ⟨v3, vs3, d3, ds3, p3, q3, rfl, rfl, rfl, h3, r3⟩ := trodAll_cons r2
  obtain ⟨rfl, rfl, rfl⟩ := trodAll_nil r3
  obtain rfl : args = #[v0, v1, v2, v3] := by cases args; simp_all
  obtain ⟨rfl, rfl⟩ := trodVars_none hV
  have hsz : (DataW.weightsEach Try.prog [5, 22, 23, 23] [d0, d1, d2, d3]).all (· ≤ reachBytes) = true := hsz0
  obtain ⟨a0, rfl, rfl, rfl, w0⟩ := open_int Try.underlying5 (hval 0 5 v0 rfl rfl) h0
  obtain ⟨a1, len1, cap1, rfl⟩ := okWide_slice Try.underlying22 (hval 1 22 v1 rfl rfl)
  have k1 := h1
  have lt1 : ∀ x ∈ p1, x.block < W.heap.size := by obtain ⟨m, hm⟩ := k1; exact DataW.trod_lt m _ _ _ hm
  obtain ⟨z1, w1, n1, m1, o1, f1⟩ : ∃ zs, Deeds W a1 zs ∧ zs.length = len1 ∧ len1 ≤ cap1 ∧ cap1 ≤ maxLen ∧ (∀ d ∈ zs, Fit d) := by
    obtain ⟨fuel, hf⟩ := h1
    rcases open_deeds Try.underlying22 Try.underlying64 (by kernel_rfl) (by kernel_rfl) Try.underlying3 Try.underlying30 Try.underlying30 hf with ⟨hcs, hx⟩ | ⟨x, l, c, zs, E, S, hcs, hl, hm, hz, hx, hE, hS, hsp, hwz⟩
    · simp [Value.cells] at hcs
      obtain ⟨rfl, rfl, rfl⟩ := hcs
      exact ⟨[], Deeds.nil _ _, rfl, Nat.le_refl _, Nat.zero_le _, fun _ h => by cases h⟩
    · simp [Value.cells] at hcs
      obtain ⟨rfl, rfl, rfl⟩ := hcs
      exact ⟨zs, hsp, hz, hl, hm, hwz⟩
  obtain ⟨a2, len2, cap2, rfl⟩ := okWide_slice Try.underlying23 (hval 2 23 v2 rfl rfl)
  have k2 := h2
  have lt2 : ∀ x ∈ p2, x.block < W.heap.size := by obtain ⟨m, hm⟩ := k2; exact DataW.trod_lt m _ _ _ hm
  obtain ⟨z2, w2, n2, m2, o2, f2, b2, e2⟩ : ∃ zs, Spans W a2 zs ∧ zs.length = len2 ∧ len2 ≤ cap2 ∧ cap2 ≤ maxLen ∧ (∀ s ∈ zs, (Lit.int .u64 s.1).wf = true ∧ (Lit.int .u64 s.2).wf = true) ∧ cap2 * 16 ≤ 140737488351232 ∧ (a2 = none → len2 = 0 ∧ cap2 = 0) := by
    obtain ⟨fuel, hf⟩ := h2
    rcases open_spans Try.underlying23 Try.underlying53 (by kernel_rfl) rfl rfl (by kernel_rfl) (by kernel_rfl) Try.underlying30 Try.underlying30 hf with ⟨hcs, hx⟩ | ⟨x, l, c, zs, E, S, hcs, hl, hm, hz, hx, hE, hS, hsp, hwz⟩
    · simp [Value.cells] at hcs
      obtain ⟨rfl, rfl, rfl⟩ := hcs
      exact ⟨[], Spans.nil _ _, rfl, Nat.le_refl _, Nat.zero_le _, (fun _ h => by cases h), by decide, fun _ => ⟨rfl, rfl⟩⟩
    · simp [Value.cells] at hcs
      obtain ⟨rfl, rfl, rfl⟩ := hcs
      exact ⟨zs, hsp, hz, hl, hm, hwz, by
        have hd : d2 = .slice E S := by simpa using hx
        have := sized_slice hsz (j := 2) (t := 23) (e := 53) (elems := E) (spare := S) rfl (by rw [← hd]; rfl) Try.underlying23
        rw [show Try.prog.bytesOf 53 = 16 by kernel_rfl, hE, hS] at this
        simp only [reachBytes] at this
        omega, fun e => by cases e⟩
  obtain ⟨a3, len3, cap3, rfl⟩ := okWide_slice Try.underlying23 (hval 3 23 v3 rfl rfl)
  have k3 := h3
  have lt3 : ∀ x ∈ p3, x.block < W.heap.size := by obtain ⟨m, hm⟩ := k3; exact DataW.trod_lt m _ _ _ hm
  obtain ⟨z3, w3, n3, m3, o3, f3, b3, e3⟩ : ∃ zs, Spans W a3 zs ∧ zs.length = len3 ∧ len3 ≤ cap3 ∧ cap3 ≤ maxLen ∧ (∀ s ∈ zs, (Lit.int .u64 s.1).wf = true ∧ (Lit.int .u64 s.2).wf = true) ∧ cap3 * 16 ≤ 140737488351232 ∧ (a3 = none → len3 = 0 ∧ cap3 = 0) := by
    obtain ⟨fuel, hf⟩ := h3
    rcases open_spans Try.underlying23 Try.underlying53 (by kernel_rfl) rfl rfl (by kernel_rfl) (by kernel_rfl) Try.underlying30 Try.underlying30 hf with ⟨hcs, hx⟩ | ⟨x, l, c, zs, E, S, hcs, hl, hm, hz, hx, hE, hS, hsp, hwz⟩
    · simp [Value.cells] at hcs
      obtain ⟨rfl, rfl, rfl⟩ := hcs
      exact ⟨[], Spans.nil _ _, rfl, Nat.le_refl _, Nat.zero_le _, (fun _ h => by cases h), by decide, fun _ => ⟨rfl, rfl⟩⟩
    · simp [Value.cells] at hcs
      obtain ⟨rfl, rfl, rfl⟩ := hcs
      exact ⟨zs, hsp, hz, hl, hm, hwz, by
        have hd : d3 = .slice E S := by simpa using hx
        have := sized_slice hsz (j := 3) (t := 23) (e := 53) (elems := E) (spare := S) rfl (by rw [← hd]; rfl) Try.underlying23
        rw [show Try.prog.bytesOf 53 = 16 by kernel_rfl, hE, hS] at this
        simp only [reachBytes] at this
        omega, fun e => by cases e⟩
  clear hA0 hval0
  refine (walk a0 a1 len1 cap1 z1 a2 len2 cap2 z2 a3 len3 cap3 z3 W w0 w1 n1 m1 o1 f1 w2 n2 m2 o2 f2 b2 e2 w3 n3 m3 o3 f3 b3 e3).mono fun e W' ⟨he, bel⟩ => ?_
  subst he
  exact ⟨_, rfl, _, _, _, [], _, [], hW', trodAll_mk1 (shut_bool Try.underlying4 _), (trodAll_cons_mk (shut_int Try.underlying5 w0) (trodAll_cons_mk (Below.trod laidOut (by kernel_rfl) (of_decide_eq_true (by kernel_rfl)) k1 bel lt1) (trodAll_cons_mk (Below.trod laidOut (by kernel_rfl) (of_decide_eq_true (by kernel_rfl)) k2 bel lt2) (trodAll_cons_mk (Below.trod laidOut (by kernel_rfl) (of_decide_eq_true (by kernel_rfl)) k3 bel lt3) trodAll_mk0)))), rfl, bel.frame _, fun h => by cases h⟩

theorem over : Rows.proofSumsRow.holds Try.pinned (OpenSpec.ofChange Rows.proofSumsSpec) :=
  OpenClaim.holds_of_wide 3 Try.f3 rfl rfl rfl rfl rfl rfl rfl ⟨rfl, rfl, rfl, rfl, rfl⟩ rfl rfl rfl rfl rfl (by kernel_rfl) Try.func3 (by kernel_rfl)
    (of_decide_eq_true (by kernel_rfl)) (by unfold Func.isWrapper; first | (rw [if_pos (by decide +kernel)]; kernel_rfl) | (rw [if_neg (by decide +kernel)]; exact ⟨rfl, rfl⟩))
    (fun os started H enc _ => lifted os started H enc)

/-- The given statement. -/
theorem proved : Rows.ProofSumsSaid :=
  over
#print axioms proved
end Go.Proofs.Ytlnncfjfphkkdaa.proofSums
