/-
  At the time that is told one more is lost, and ahead of it none. No conditions.
-/
import Derived.Test.YtoncominjgkjoaaDeeds
import Derived.Test.YtoncominjgkjoaaRows
import Derived.Test.YtoncominjgkjoaaRow
import Derived.WalkKit
import Derived.ProofKit
import Derived.OpenShut
import Derived.ShutString
import Derived.ChangeOld
import Derived.Below
import Derived.Test.YtoncominjgkjoaaLossAlive
import Derived.Test.YtoncominjgkjoaaLossMore
namespace Go.Proofs.Ytoncominjgkjoaa.lossTimes
open Go.ChangeShapes Go.WideShapes Go.ChangeAt Go.RowKit
open Go.ChangeMaps (open_string shut_string)
open Go.Proofs.Ytoncominjgkjoaa.Base
set_option linter.unusedVariables false
set_option linter.unusedSimpArgs false

theorem own : ownKnob Try.prog.godebug = none := by kernel_rfl
theorem laidOut : laidOutB Try.prog = true := by kernel_rfl

open Go.Proofs.Ytoncominjgkjoaa.Led Go.Proofs.Ytoncominjgkjoaa.LedPlain Go.Proofs.Ytoncominjgkjoaa.Loss Go.Proofs.Ytoncominjgkjoaa.LossPlain
set_option maxHeartbeats 4000000 in
set_option maxRecDepth 20000 in
theorem walk (a0 : Int) (a1 : Option Addr) (len1 cap1 : Nat) (z1 : List Dd) (a2 : Int) (a3 : Int) (a4 : Int) (w : World) (w0 : (Lit.int .u8 a0).wf = true) (w1 : Deeds w a1 z1) (n1 : z1.length = len1) (m1 : len1 ≤ cap1) (o1 : cap1 ≤ maxLen) (f1 : ∀ d ∈ z1, Fit d) (w2 : (Lit.int .u64 a2).wf = true) (w3 : (Lit.int .u16 a3).wf = true) (w4 : (Lit.int .u16 a4).wf = true) :
    Calls Try.prog 4 #[.int .u8 a0, .slice a1 len1 cap1, .int .u64 a2, .int .u16 a3, .int .u16 a4] w fun e w' => e = .returned (.bool true) ∧ Below w.heap.size w w' := by
  obtain ⟨n0', n1'⟩ := Base.u64_of w2
  obtain ⟨t0, t1⟩ := Base.u16_of w3
  obtain ⟨v0, v1⟩ := Base.u16_of w4
  obtain ⟨p0, p1⟩ := Base.u8_of w0
  subst n1
  have CM := make_any (a0 % 40) 4611686018427387903 (by omega) (by omega) (by decide) (by decide) a1 z1.length cap1 z1 w rfl m1 o1 f1 w1
  have hml := made_len (a0 % 40) 4611686018427387903 z1
  have hme := made_early (a0 % 40) 4611686018427387903 z1
  generalize madeG (a0 % 40) 4611686018427387903 z1 = g at *
  have CA := fun U => alive_loss U
  go_enter Try.func4, Try.ntmps4
  go_upto_region 2 with (go_at_call 7; refine CM.mono ?_; rintro e u1 ⟨a, b, S, rfl, P1, hS, L1⟩)
  refine at_any ?_
  intro W hW
  obtain ⟨T1, hM, hP⟩ : Blk W u1.heap.size #[.pointer (some a), .pointer (some ⟨b, 0, none⟩)] 27 ∧ Below w.heap.size w W ∧ Pair S W a b g := by
    subst hW
    exact ⟨Blk.new _ _ _, L1.alloc L1.size _, P1.below ((Below.refl u1.heap.size u1).alloc (Nat.le_refl _) _)⟩
  clear hW CM P1 L1
  generalize u1.heap.size = tb at *
  clear u1
  go_upto_region 4 with (go_at_call 8; refine (CA W).mono ?_; rintro e U ⟨rfl, L1⟩)
  have T2 := T1.below L1 T1.lt
  have M2 := Base.next hM L1
  have P2 := hP.below L1
  have hts := ts_all P2.ok hme
  have hal : (allS g).length ≤ 80 := by
    unfold allS
    rw [List.length_drop]
    omega
  clear T1 hM L1 hP CA hme
  have c0 : U.cell? ⟨tb, 0, none⟩ = some (.pointer (some a)) := T2.cell 0
  have c1 : U.cell? ⟨tb, 1, none⟩ = some (.pointer (some ⟨b, 0, none⟩)) := T2.cell 1
  have hlt := T2.lt
  have CN := ref_next P2.rf
  obtain ⟨n, en⟩ : ∃ n : Int, n = a2 % ((g.l.length : Int) + 5) := ⟨_, rfl⟩
  have hn0 : 0 ≤ n := by rw [en]; exact Int.emod_nonneg a2 (by omega)
  have hn1 : n < 200 := by rw [en]; have := Int.emod_lt_of_pos a2 (show 0 < ((g.l.length : Int) + 5) by omega); omega
  have hxs := lost_le n a3 a4 (allS g)
  have CF := fun V (hV : Below U.heap.size U V) (t : Int) (h1 : 0 ≤ t) (h2 : t ≤ 18446744073709551615) => find_any (P2.below hV).led (by omega) n t a4 hn0 (by omega) h1 h2 (by omega) (by omega)
  have C1 := CF U (Below.refl _ _) a3 (by omega) (by omega)
  by_cases hT : nextT n a3 a4 (allS g) = 18446744073709551615
  · obtain ⟨k1, k2⟩ := times_top v0 v1 t1 hts hT
    rw [hT] at C1
    have CF2 := fun V hV => CF V hV 18446744073709551615 (by decide) (by decide)
    rw [k1, k2] at CF2
    generalize lostL n a3 a4 (allS g) = xs at *
    clear k1 k2 CF hts hT
    subst en
    go_upto_region 6 with (first
      | (go_at_call 9; refine CN.mono ?_; rintro e u ⟨rfl, rfl⟩)
      | (go_at_call 10; refine C1.mono ?_; rintro e y1 ⟨p1, q1, rfl, l1, r1, _, R1, L1⟩))
    have T3 := T2.below L1 T2.lt
    have M3 := Base.next M2 L1
    have P3 := P2.below L1
    have Ra : Ints .u64 y1 p1 xs := R1.row
    have C2 := CF2 y1 L1
    clear T2 M2 P2 C1 CN c0 c1 hlt CF2 R1
    have c0 : y1.cell? ⟨tb, 0, none⟩ = some (.pointer (some a)) := T3.cell 0
    have c1 : y1.cell? ⟨tb, 1, none⟩ = some (.pointer (some ⟨b, 0, none⟩)) := T3.cell 1
    have hlt := T3.lt
    go_upto_region 8 with (first
      | (go_at_call 10; refine C2.mono ?_; rintro e y2 ⟨p2, q2, rfl, l2, r2, _, R2, L2⟩))
    have T4 := T3.below L2 T3.lt
    have M4 := Base.next M3 L2
    have P4 := P3.below L2
    have Rb : Ints .u64 y2 p2 xs := R2.row
    replace Ra := Ra.below L2
    have CS := Fold.ref_same p1 p2 xs.length q1 q2 xs y2 rfl (by omega) Ra Rb
    clear T3 P3 C2 c0 c1 hlt R2
    go_wp2_with (go_at_call 12; refine CS.mono ?_; rintro e y3 ⟨rfl, L3⟩)
    all_goals go_ret
    all_goals exact ⟨rfl, Base.next M4 L3⟩
  · obtain ⟨k1, k2, k3, k4, k5⟩ := times_at v0 v1 t0 t1 hts hT
    have CF2 := fun V hV => CF V hV (nextT n a3 a4 (allS g)) (by omega) (by omega)
    have CF3 := fun V hV => CF V hV (nextT n a3 a4 (allS g) - 1) (by omega) (by omega)
    have hx2 := lost_le n (nextT n a3 a4 (allS g)) a4 (allS g)
    rw [k4, k5] at CF3
    generalize lostL n (nextT n a3 a4 (allS g)) a4 (allS g) = ys at *
    generalize nextT n (nextT n a3 a4 (allS g)) a4 (allS g) = uu at *
    generalize lostL n a3 a4 (allS g) = xs at *
    generalize nextT n a3 a4 (allS g) = tt at *
    have k3' : ¬ (ys.length : Int) ≤ (xs.length : Int) := by omega
    have k1' : ¬ tt ≤ a3 := by omega
    clear k4 k5 CF hts k3
    subst en
    go_upto_region 6 with (first
      | (go_at_call 9; refine CN.mono ?_; rintro e u ⟨rfl, rfl⟩)
      | (go_at_call 10; refine C1.mono ?_; rintro e y1 ⟨p1, q1, rfl, l1, r1, _, R1, L1⟩))
    have T3 := T2.below L1 T2.lt
    have M3 := Base.next M2 L1
    have P3 := P2.below L1
    have Ra : Ints .u64 y1 p1 xs := R1.row
    have C2 := CF2 y1 L1
    have CF4 := fun V (hV : Below y1.heap.size y1 V) => CF3 V (Base.next L1 hV)
    clear T2 M2 P2 C1 CN c0 c1 hlt CF2 CF3 R1
    have c0 : y1.cell? ⟨tb, 0, none⟩ = some (.pointer (some a)) := T3.cell 0
    have c1 : y1.cell? ⟨tb, 1, none⟩ = some (.pointer (some ⟨b, 0, none⟩)) := T3.cell 1
    have hlt := T3.lt
    go_upto_region 10 with (first
      | (go_at_call 10; refine C2.mono ?_; rintro e y2 ⟨p2, q2, rfl, l2, r2, _, R2, L2⟩))
    have T4 := T3.below L2 T3.lt
    have M4 := Base.next M3 L2
    have P4 := P3.below L2
    replace Ra := Ra.below L2
    have C3 := CF4 y2 L2
    clear T3 M3 P3 C2 c0 c1 hlt CF4 R2
    have c0 : y2.cell? ⟨tb, 0, none⟩ = some (.pointer (some a)) := T4.cell 0
    have c1 : y2.cell? ⟨tb, 1, none⟩ = some (.pointer (some ⟨b, 0, none⟩)) := T4.cell 1
    have hlt := T4.lt
    go_upto_region 13 with (first
      | (go_at_call 10; refine C3.mono ?_; rintro e y3 ⟨p3, q3, rfl, l3, r3, _, R3, L3⟩))
    have T5 := T4.below L3 T4.lt
    have M5 := Base.next M4 L3
    have P5 := P4.below L3
    have Rc : Ints .u64 y3 p3 xs := R3.row
    replace Ra := Ra.below L3
    have CS := Fold.ref_same p1 p3 xs.length q1 q3 xs y3 rfl (by omega) Ra Rc
    clear T4 M4 P4 C3 c0 c1 hlt R3
    go_wp2_with (go_at_call 12; refine CS.mono ?_; rintro e y4 ⟨rfl, L4⟩)
    all_goals go_ret
    all_goals exact ⟨rfl, Base.next M5 L4⟩

set_option maxRecDepth 100000 in
theorem lifted (os : Os) (started : os.Started) (H : Type) (enc : TypeId × Value → H) :
    ReturnsInHanded {} Try.checked os 4 .any (Rows.lossTimesSpec.pre6 enc Try.prog Try.f4 Rows.lossTimesRow.domain false) (Rows.lossTimesSpec.post enc Try.prog Try.f4 false true false false) := by
  refine returnsInHanded_of_change (C := Try.checked) own started (by kernel_rfl) Try.func4
    (ChangeSpec.witness6 (enc := enc) (C := Try.checked) false ⟨#[], #[.int .u8 0, .slice none 0 0, .int .u64 0, .int .u16 0, .int .u16 0], []⟩ 8 (by kernel_rfl) (by kernel_rfl) (by kernel_rfl) (by kernel_rfl)) ?_
  intro W base args ds gs before hval0 hW hcnd _
  have hval : ∀ (j : Nat) t v, Try.f4.params[j]? = some t → args[j]? = some v → Value.okWide Try.prog W .any base t v := hval0
  have hW' := hW
  obtain ⟨p, q, hA0, hV, rfl, hfz, hnd⟩ := hW
  have hA : DataW.TrodAll enc Try.prog W 0 (fun _ => true) true Try.f4.params.toList args.toList ds p := hA0
  rw [Try.params4] at hA hval
  obtain ⟨v0, vs0, d0, ds0, p0, q0, hargs, rfl, rfl, h0, r0⟩ := trodAll_cons hA
  obtain ⟨v1, vs1, d1, ds1, p1, q1, rfl, rfl, rfl, h1, r1⟩ := trodAll_cons r0
  obtain ⟨v2, vs2, d2, ds2, p2, q2, rfl, rfl, rfl, h2, r2⟩ := trodAll_cons r1
  obtain ⟨v3, vs3, d3, ds3, p3, q3, rfl, rfl, rfl, h3, r3⟩ := trodAll_cons r2
  obtain ⟨v4, vs4, d4, ds4, p4, q4, rfl, rfl, rfl, h4, r4⟩ := trodAll_cons r3
  obtain ⟨rfl, rfl, rfl⟩ := trodAll_nil r4
  obtain rfl : args = #[v0, v1, v2, v3, v4] := by cases args; simp_all
  obtain ⟨rfl, rfl⟩ := trodVars_none hV
  obtain ⟨a0, rfl, rfl, rfl, w0⟩ := open_int Try.underlying5 (hval 0 5 v0 rfl rfl) h0
  obtain ⟨a1, len1, cap1, rfl⟩ := okWide_slice Try.underlying22 (hval 1 22 v1 rfl rfl)
  have k1 := h1
  have lt1 : ∀ x ∈ p1, x.block < W.heap.size := by obtain ⟨m, hm⟩ := k1; exact DataW.trod_lt m _ _ _ hm
  obtain ⟨z1, w1, n1, m1, o1, f1⟩ : ∃ zs, Deeds W a1 zs ∧ zs.length = len1 ∧ len1 ≤ cap1 ∧ cap1 ≤ maxLen ∧ (∀ d ∈ zs, Fit d) := by
    obtain ⟨fuel, hf⟩ := h1
    rcases open_deeds Try.underlying22 Try.underlying52 (by kernel_rfl) (by kernel_rfl) Try.underlying3 Try.underlying23 Try.underlying23 hf with ⟨hcs, hx⟩ | ⟨x, l, c, zs, E, S, hcs, hl, hm, hz, hx, hE, hS, hsp, hwz⟩
    · simp [Value.cells] at hcs
      obtain ⟨rfl, rfl, rfl⟩ := hcs
      exact ⟨[], Deeds.nil _ _, rfl, Nat.le_refl _, Nat.zero_le _, fun _ h => by cases h⟩
    · simp [Value.cells] at hcs
      obtain ⟨rfl, rfl, rfl⟩ := hcs
      exact ⟨zs, hsp, hz, hl, hm, hwz⟩
  obtain ⟨a2, rfl, rfl, rfl, w2⟩ := open_int Try.underlying23 (hval 2 23 v2 rfl rfl) h2
  obtain ⟨a3, rfl, rfl, rfl, w3⟩ := open_int Try.underlying38 (hval 3 38 v3 rfl rfl) h3
  obtain ⟨a4, rfl, rfl, rfl, w4⟩ := open_int Try.underlying38 (hval 4 38 v4 rfl rfl) h4
  clear hA0 hval0
  refine (walk a0 a1 len1 cap1 z1 a2 a3 a4 W w0 w1 n1 m1 o1 f1 w2 w3 w4).mono fun e W' ⟨he, bel⟩ => ?_
  subst he
  exact ⟨_, rfl, _, _, _, [], _, [], hW', trodAll_mk1 (shut_bool Try.underlying4 _), (trodAll_cons_mk (shut_int Try.underlying5 w0) (trodAll_cons_mk (Below.trod laidOut (by kernel_rfl) (of_decide_eq_true (by kernel_rfl)) k1 bel lt1) (trodAll_cons_mk (shut_int Try.underlying23 w2) (trodAll_cons_mk (shut_int Try.underlying38 w3) (trodAll_cons_mk (shut_int Try.underlying38 w4) trodAll_mk0))))), rfl, bel.frame _, fun h => by cases h⟩

theorem over : Rows.lossTimesRow.holds Try.pinned (OpenSpec.ofChange Rows.lossTimesSpec) :=
  OpenClaim.holds_of_wide 4 Try.f4 rfl rfl rfl rfl rfl rfl rfl ⟨rfl, rfl, rfl, rfl, rfl⟩ rfl rfl rfl rfl rfl (by kernel_rfl) Try.func4 (by kernel_rfl)
    (of_decide_eq_true (by kernel_rfl)) (by unfold Func.isWrapper; first | (rw [if_pos (by decide +kernel)]; kernel_rfl) | (rw [if_neg (by decide +kernel)]; exact ⟨rfl, rfl⟩))
    (fun os started H enc _ => lifted os started H enc)

/-- The given statement. -/
theorem proved : Rows.LossTimesSaid :=
  over
#print axioms proved
end Go.Proofs.Ytoncominjgkjoaa.lossTimes
