/-
  Of any ledger and numbers the program tells which packets are lost, and when the next one is, as the document defines it, and changes nothing. No conditions.
-/
import Derived.Test.YtoncominjgkjoaaDeeds
import Derived.Test.YtoncominjgkjoaaRows
import Derived.Test.YtoncominjgkjoaaRow
import Derived.WalkKit
import Derived.ProofKit
import Derived.OpenShut
import Derived.ShutString
import Derived.ChangeOld
import Derived.Below
import Derived.Test.YtoncominjgkjoaaLossAlive
namespace Go.Proofs.Ytoncominjgkjoaa.lossFinds
open Go.ChangeShapes Go.WideShapes Go.ChangeAt Go.RowKit
open Go.ChangeMaps (open_string shut_string)
open Go.Proofs.Ytoncominjgkjoaa.Base
set_option linter.unusedVariables false
set_option linter.unusedSimpArgs false

theorem own : ownKnob Try.prog.godebug = none := by kernel_rfl
theorem laidOut : laidOutB Try.prog = true := by kernel_rfl

open Go.Proofs.Ytoncominjgkjoaa.Led Go.Proofs.Ytoncominjgkjoaa.LedPlain Go.Proofs.Ytoncominjgkjoaa.Loss Go.Proofs.Ytoncominjgkjoaa.LossPlain
set_option maxHeartbeats 4000000 in
set_option maxRecDepth 20000 in
theorem walk (a0 : Int) (a1 : Option Addr) (len1 cap1 : Nat) (z1 : List Dd) (a2 : Int) (a3 : Int) (a4 : Int) (a5 : Bool) (w : World) (w0 : (Lit.int .u8 a0).wf = true) (w1 : Deeds w a1 z1) (n1 : z1.length = len1) (m1 : len1 ≤ cap1) (o1 : cap1 ≤ maxLen) (f1 : ∀ d ∈ z1, Fit d) (w2 : (Lit.int .u64 a2).wf = true) (w3 : (Lit.int .u64 a3).wf = true) (w4 : (Lit.int .u64 a4).wf = true) :
    Calls Try.prog 3 #[.int .u8 a0, .slice a1 len1 cap1, .int .u64 a2, .int .u64 a3, .int .u64 a4, .bool a5] w fun e w' => e = .returned (.bool true) ∧ Below w.heap.size w w' := by
  obtain ⟨p0, p1⟩ := Base.u8_of w0
  obtain ⟨n0', n1'⟩ := Base.u64_of w2
  obtain ⟨t0, t1⟩ := Base.u64_of w3
  obtain ⟨v0, v1⟩ := Base.u64_of w4
  subst n1
  have CM := make_any (a0 % 40) 4611686018427387903 (by omega) (by omega) (by decide) (by decide) a1 z1.length cap1 z1 w rfl m1 o1 f1 w1
  have hml := made_len (a0 % 40) 4611686018427387903 z1
  generalize madeG (a0 % 40) 4611686018427387903 z1 = g at *
  have CA := fun U => alive_loss U
  obtain ⟨n, now, win, hb⟩ : ∃ n now win : Int, (n = (if a5 = true then a2 % ((g.l.length : Int) + 5) else a2) ∧ now = (if a5 = true then a3 % 12000 else a3) ∧ win = (if a5 = true then a4 % 6000 else a4)) := ⟨_, _, _, rfl, rfl, rfl⟩
  obtain ⟨e1, e2, e3⟩ := hb
  have hn : 0 ≤ n ∧ n ≤ 18446744073709551615 ∧ 0 ≤ now ∧ now ≤ 18446744073709551615 ∧ 0 ≤ win ∧ win ≤ 18446744073709551615 := by
    cases a5
    · simp only [Bool.false_eq_true, if_false] at e1 e2 e3
      omega
    · simp only [if_true] at e1 e2 e3
      have := Int.emod_nonneg a2 (show ((g.l.length : Int) + 5) ≠ 0 by omega)
      have := Int.emod_lt_of_pos a2 (show 0 < ((g.l.length : Int) + 5) by omega)
      omega
  obtain ⟨h1, h2, h3, h4, h5, h6⟩ := hn
  go_enter Try.func3, Try.ntmps3
  go_upto_region 2 with (go_at_call 7; refine CM.mono ?_; rintro e u1 ⟨a, b, S, rfl, P1, hS, L1⟩)
  refine at_any ?_
  intro W hW
  obtain ⟨T1, hM, hP⟩ : Blk W u1.heap.size #[.pointer (some a), .pointer (some ⟨b, 0, none⟩)] 27 ∧ Below w.heap.size w W ∧ Pair S W a b g := by
    subst hW
    exact ⟨Blk.new _ _ _, L1.alloc L1.size _, P1.below ((Below.refl u1.heap.size u1).alloc (Nat.le_refl _) _)⟩
  clear hW CM P1 L1
  generalize u1.heap.size = tb at *
  clear u1
  go_upto_region 4 with (go_at_call 8; refine (CA W).mono ?_; rintro e U ⟨rfl, L1⟩)
  have T2 := T1.below L1 T1.lt
  have M2 := Base.next hM L1
  have P2 := hP.below L1
  clear T1 hM L1 hP CA
  have c0 : U.cell? ⟨tb, 0, none⟩ = some (.pointer (some a)) := T2.cell 0
  have c1 : U.cell? ⟨tb, 1, none⟩ = some (.pointer (some ⟨b, 0, none⟩)) := T2.cell 1
  have hlt := T2.lt
  have CN := ref_next P2.rf
  have C1 := find_any P2.led (by omega) n now win h1 h2 h3 h4 h5 h6
  have C2 := fun V (hV : Below U.heap.size U V) => ref_find (P2.below hV).rf (by omega) n now win h1 h2 h3 h4 h5 h6
  have hxs : (lostL n now win (allS g)).length ≤ 80 := by
    have := lost_le n now win (allS g)
    unfold allS at *
    rw [List.length_drop] at this
    omega
  generalize hxs0 : lostL n now win (allS g) = xs at *
  generalize htt0 : nextT n now win (allS g) = tt at *
  clear hxs0 htt0
  cases a5
  all_goals (simp only [Bool.false_eq_true, if_false, if_true] at e1 e2 e3)
  all_goals subst e1 e2 e3
  all_goals (
    go_upto_region 7 with (first
      | (go_at_call 9; refine CN.mono ?_; rintro e u ⟨rfl, rfl⟩)
      | (go_at_call 10; refine C1.mono ?_; rintro e y1 ⟨p1, q1, rfl, l1, q2, _, R1, L1⟩))
    have T3 := T2.below L1 T2.lt
    have M3 := Base.next M2 L1
    have P3 := P2.below L1
    have C3 := C2 y1 L1
    have R3 : Ints .u64 y1 p1 xs := R1.row
    clear T2 M2 P2 C1 CN c0 c1 hlt L1 R1 C2
    have c1 : y1.cell? ⟨tb, 1, none⟩ = some (.pointer (some ⟨b, 0, none⟩)) := T3.cell 1
    have hlt := T3.lt
    go_upto_region 8 with (go_at_call 11; refine C3.mono ?_; rintro e y2 ⟨p2, q3, rfl, l2, q4, _, R2, L2⟩)
    have T4 := T3.below L2 T3.lt
    have M4 := Base.next M3 L2
    have P4 := P3.below L2
    have R4 := R3.below L2
    have R5 : Ints .u64 y2 p2 xs := R2.row
    clear T3 M3 P3 C3 c1 hlt L2 R2 R3
    have CS := Fold.ref_same p1 p2 xs.length q1 q3 xs y2 rfl (by omega) R4 R5
    have CT := fun V (hV : Below y2.heap.size y2 V) => two_same (P4.below hV) (by omega)
    go_wp2_with (first
      | (go_at_call 12; refine CS.mono ?_; rintro e y3 ⟨rfl, L3⟩; have T5 := T4.below L3 T4.lt; have c0 : y3.cell? ⟨tb, 0, none⟩ = some (.pointer (some a)) := T5.cell 0; have c1 : y3.cell? ⟨tb, 1, none⟩ = some (.pointer (some ⟨b, 0, none⟩)) := T5.cell 1; have hlt := T5.lt; have C5 := CT y3 L3; clear CT)
      | (go_at_call 13; refine C5.mono ?_; rintro e y4 ⟨rfl, L4⟩))
    go_ret
    exact ⟨rfl, Base.next (Base.next M4 L3) L4⟩)

set_option maxRecDepth 100000 in
theorem lifted (os : Os) (started : os.Started) (H : Type) (enc : TypeId × Value → H) :
    ReturnsInHanded {} Try.checked os 3 .any (Rows.lossFindsSpec.pre6 enc Try.prog Try.f3 Rows.lossFindsRow.domain false) (Rows.lossFindsSpec.post enc Try.prog Try.f3 false true false false) := by
  refine returnsInHanded_of_change (C := Try.checked) own started (by kernel_rfl) Try.func3
    (ChangeSpec.witness6 (enc := enc) (C := Try.checked) false ⟨#[], #[.int .u8 0, .slice none 0 0, .int .u64 0, .int .u64 0, .int .u64 0, .bool false], []⟩ 8 (by kernel_rfl) (by kernel_rfl) (by kernel_rfl) (by kernel_rfl)) ?_
  intro W base args ds gs before hval0 hW hcnd _
  have hval : ∀ (j : Nat) t v, Try.f3.params[j]? = some t → args[j]? = some v → Value.okWide Try.prog W .any base t v := hval0
  have hW' := hW
  obtain ⟨p, q, hA0, hV, rfl, hfz, hnd⟩ := hW
  have hA : DataW.TrodAll enc Try.prog W 0 (fun _ => true) true Try.f3.params.toList args.toList ds p := hA0
  rw [Try.params3] at hA hval
  obtain ⟨v0, vs0, d0, ds0, p0, q0, hargs, rfl, rfl, h0, r0⟩ := trodAll_cons hA
  obtain ⟨v1, vs1, d1, ds1, p1, q1, rfl, rfl, rfl, h1, r1⟩ := trodAll_cons r0
  obtain ⟨v2, vs2, d2, ds2, p2, q2, rfl, rfl, rfl, h2, r2⟩ := trodAll_cons r1
  obtain ⟨v3, vs3, d3, ds3, p3, q3, rfl, rfl, rfl, h3, r3⟩ := trodAll_cons r2
  obtain ⟨v4, vs4, d4, ds4, p4, q4, rfl, rfl, rfl, h4, r4⟩ := trodAll_cons r3
  obtain ⟨v5, vs5, d5, ds5, p5, q5, rfl, rfl, rfl, h5, r5⟩ := trodAll_cons r4
  obtain ⟨rfl, rfl, rfl⟩ := trodAll_nil r5
  obtain rfl : args = #[v0, v1, v2, v3, v4, v5] := by cases args; simp_all
  obtain ⟨rfl, rfl⟩ := trodVars_none hV
  obtain ⟨a0, rfl, rfl, rfl, w0⟩ := open_int Try.underlying5 (hval 0 5 v0 rfl rfl) h0
  obtain ⟨a1, len1, cap1, rfl⟩ := okWide_slice Try.underlying22 (hval 1 22 v1 rfl rfl)
  have k1 := h1
  have lt1 : ∀ x ∈ p1, x.block < W.heap.size := by obtain ⟨m, hm⟩ := k1; exact DataW.trod_lt m _ _ _ hm
  obtain ⟨z1, w1, n1, m1, o1, f1⟩ : ∃ zs, Deeds W a1 zs ∧ zs.length = len1 ∧ len1 ≤ cap1 ∧ cap1 ≤ maxLen ∧ (∀ d ∈ zs, Fit d) := by
    obtain ⟨fuel, hf⟩ := h1
    rcases open_deeds Try.underlying22 Try.underlying52 (by kernel_rfl) (by kernel_rfl) Try.underlying3 Try.underlying23 Try.underlying23 hf with ⟨hcs, hx⟩ | ⟨x, l, c, zs, E, S, hcs, hl, hm, hz, hx, hE, hS, hsp, hwz⟩
    · simp [Value.cells] at hcs
      obtain ⟨rfl, rfl, rfl⟩ := hcs
      exact ⟨[], Deeds.nil _ _, rfl, Nat.le_refl _, Nat.zero_le _, fun _ h => by cases h⟩
    · simp [Value.cells] at hcs
      obtain ⟨rfl, rfl, rfl⟩ := hcs
      exact ⟨zs, hsp, hz, hl, hm, hwz⟩
  obtain ⟨a2, rfl, rfl, rfl, w2⟩ := open_int Try.underlying23 (hval 2 23 v2 rfl rfl) h2
  obtain ⟨a3, rfl, rfl, rfl, w3⟩ := open_int Try.underlying23 (hval 3 23 v3 rfl rfl) h3
  obtain ⟨a4, rfl, rfl, rfl, w4⟩ := open_int Try.underlying23 (hval 4 23 v4 rfl rfl) h4
  obtain ⟨a5, rfl, rfl, rfl⟩ := open_bool Try.underlying4 (hval 5 4 v5 rfl rfl) h5
  clear hA0 hval0
  refine (walk a0 a1 len1 cap1 z1 a2 a3 a4 a5 W w0 w1 n1 m1 o1 f1 w2 w3 w4).mono fun e W' ⟨he, bel⟩ => ?_
  subst he
  exact ⟨_, rfl, _, _, _, [], _, [], hW', trodAll_mk1 (shut_bool Try.underlying4 _), (trodAll_cons_mk (shut_int Try.underlying5 w0) (trodAll_cons_mk (Below.trod laidOut (by kernel_rfl) (of_decide_eq_true (by kernel_rfl)) k1 bel lt1) (trodAll_cons_mk (shut_int Try.underlying23 w2) (trodAll_cons_mk (shut_int Try.underlying23 w3) (trodAll_cons_mk (shut_int Try.underlying23 w4) (trodAll_cons_mk (shut_bool Try.underlying4 _) trodAll_mk0)))))), rfl, bel.frame _, fun h => by cases h⟩

theorem over : Rows.lossFindsRow.holds Try.pinned (OpenSpec.ofChange Rows.lossFindsSpec) :=
  OpenClaim.holds_of_wide 3 Try.f3 rfl rfl rfl rfl rfl rfl rfl ⟨rfl, rfl, rfl, rfl, rfl⟩ rfl rfl rfl rfl rfl (by kernel_rfl) Try.func3 (by kernel_rfl)
    (of_decide_eq_true (by kernel_rfl)) (by unfold Func.isWrapper; first | (rw [if_pos (by decide +kernel)]; kernel_rfl) | (rw [if_neg (by decide +kernel)]; exact ⟨rfl, rfl⟩))
    (fun os started H enc _ => lifted os started H enc)

/-- The given statement. -/
theorem proved : Rows.LossFindsSaid :=
  over
#print axioms proved
end Go.Proofs.Ytoncominjgkjoaa.lossFinds
