/-
  What is lost stays so as time goes on, and as more is acknowledged. No conditions.
-/
import Derived.Test.YtoncominjgkjoaaDeeds
import Derived.Test.YtoncominjgkjoaaRows
import Derived.Test.YtoncominjgkjoaaRow
import Derived.WalkKit
import Derived.ProofKit
import Derived.OpenShut
import Derived.ShutString
import Derived.ChangeOld
import Derived.Below
import Derived.Test.YtoncominjgkjoaaLossAlive
import Derived.Test.YtoncominjgkjoaaLossMore
namespace Go.Proofs.Ytoncominjgkjoaa.lossGrows
open Go.ChangeShapes Go.WideShapes Go.ChangeAt Go.RowKit
open Go.ChangeMaps (open_string shut_string)
open Go.Proofs.Ytoncominjgkjoaa.Base
set_option linter.unusedVariables false
set_option linter.unusedSimpArgs false

theorem own : ownKnob Try.prog.godebug = none := by kernel_rfl
theorem laidOut : laidOutB Try.prog = true := by kernel_rfl

open Go.Proofs.Ytoncominjgkjoaa.Led Go.Proofs.Ytoncominjgkjoaa.LedPlain Go.Proofs.Ytoncominjgkjoaa.Loss Go.Proofs.Ytoncominjgkjoaa.LossPlain
set_option maxHeartbeats 4000000 in
set_option maxRecDepth 20000 in
theorem walk (a0 : Int) (a1 : Option Addr) (len1 cap1 : Nat) (z1 : List Dd) (a2 : Int) (a3 : Int) (a4 : Int) (a5 : Int) (a6 : Int) (w : World) (w0 : (Lit.int .u8 a0).wf = true) (w1 : Deeds w a1 z1) (n1 : z1.length = len1) (m1 : len1 ≤ cap1) (o1 : cap1 ≤ maxLen) (f1 : ∀ d ∈ z1, Fit d) (w2 : (Lit.int .u8 a2).wf = true) (w3 : (Lit.int .u8 a3).wf = true) (w4 : (Lit.int .u16 a4).wf = true) (w5 : (Lit.int .u16 a5).wf = true) (w6 : (Lit.int .u16 a6).wf = true) :
    Calls Try.prog 5 #[.int .u8 a0, .slice a1 len1 cap1, .int .u8 a2, .int .u8 a3, .int .u16 a4, .int .u16 a5, .int .u16 a6] w fun e w' => e = .returned (.bool true) ∧ Below w.heap.size w w' := by
  obtain ⟨n0', n1'⟩ := Base.u8_of w2
  obtain ⟨n2', n3'⟩ := Base.u8_of w3
  obtain ⟨t0, t1⟩ := Base.u16_of w4
  obtain ⟨t2, t3⟩ := Base.u16_of w5
  obtain ⟨v0, v1⟩ := Base.u16_of w6
  obtain ⟨p0, p1⟩ := Base.u8_of w0
  subst n1
  have CM := make_any (a0 % 40) 4611686018427387903 (by omega) (by omega) (by decide) (by decide) a1 z1.length cap1 z1 w rfl m1 o1 f1 w1
  have hml := made_len (a0 % 40) 4611686018427387903 z1
  have hme := made_early (a0 % 40) 4611686018427387903 z1
  generalize madeG (a0 % 40) 4611686018427387903 z1 = g at *
  have CA := fun U => alive_loss U
  go_enter Try.func5, Try.ntmps5
  go_upto_region 2 with (go_at_call 7; refine CM.mono ?_; rintro e u1 ⟨a, b, S, rfl, P1, hS, L1⟩)
  refine at_any ?_
  intro W hW
  obtain ⟨T1, hM, hP⟩ : Blk W u1.heap.size #[.pointer (some a), .pointer (some ⟨b, 0, none⟩)] 27 ∧ Below w.heap.size w W ∧ Pair S W a b g := by
    subst hW
    exact ⟨Blk.new _ _ _, L1.alloc L1.size _, P1.below ((Below.refl u1.heap.size u1).alloc (Nat.le_refl _) _)⟩
  clear hW CM P1 L1
  generalize u1.heap.size = tb at *
  clear u1
  go_upto_region 4 with (go_at_call 8; refine (CA W).mono ?_; rintro e U ⟨rfl, L1⟩)
  have T2 := T1.below L1 T1.lt
  have M2 := Base.next hM L1
  have P2 := hP.below L1
  have hts := ts_all P2.ok hme
  have hal : (allS g).length ≤ 80 := by
    unfold allS
    rw [List.length_drop]
    omega
  clear T1 hM L1 hP CA hme
  have c0 : U.cell? ⟨tb, 0, none⟩ = some (.pointer (some a)) := T2.cell 0
  have c1 : U.cell? ⟨tb, 1, none⟩ = some (.pointer (some ⟨b, 0, none⟩)) := T2.cell 1
  have hlt := T2.lt
  have hsub := lost_sub (n := a2) (m := a2 + a3) (now := a4) (later := a4 + a5) (win := a6) (by omega) (by omega) (allS g)
  have hxs := lost_le a2 a4 a6 (allS g)
  have hys := lost_le (a2 + a3) (a4 + a5) a6 (allS g)
  have C1 := find_any P2.led (by omega) a2 a4 a6 (by omega) (by omega) (by omega) (by omega) (by omega) (by omega)
  have CF2 := fun V (hV : Below U.heap.size U V) => find_any (P2.below hV).led (by omega) (a2 + a3) (a4 + a5) a6 (by omega) (by omega) (by omega) (by omega) (by omega) (by omega)
  generalize lostL (a2 + a3) (a4 + a5) a6 (allS g) = ys at *
  generalize nextT (a2 + a3) (a4 + a5) a6 (allS g) = uu at *
  generalize lostL a2 a4 a6 (allS g) = xs at *
  generalize nextT a2 a4 a6 (allS g) = tt at *
  go_upto_region 5 with (first
    | (go_at_call 10; refine C1.mono ?_; rintro e y1 ⟨p1, q1, rfl, l1, r1, _, R1, L1⟩))
  have T3 := T2.below L1 T2.lt
  have M3 := Base.next M2 L1
  have P3 := P2.below L1
  have Ra : Ints .u64 y1 p1 xs := R1.row
  have C2 := CF2 y1 L1
  clear T2 M2 P2 C1 c0 c1 hlt CF2 R1
  have c0 : y1.cell? ⟨tb, 0, none⟩ = some (.pointer (some a)) := T3.cell 0
  have c1 : y1.cell? ⟨tb, 1, none⟩ = some (.pointer (some ⟨b, 0, none⟩)) := T3.cell 1
  have hlt := T3.lt
  go_upto_region 7 with (first
    | (go_at_call 10; refine C2.mono ?_; rintro e y2 ⟨p2, q2, rfl, l2, r2, _, R2, L2⟩))
  have T4 := T3.below L2 T3.lt
  have M4 := Base.next M3 L2
  have P4 := P3.below L2
  have Rb : Ints .u64 y2 p2 ys := R2.row
  replace Ra := Ra.below L2
  clear T3 M3 P3 C2 c0 c1 hlt R2 T4 P4 L1 L2
  generalize hla : xs.length = la at *
  generalize hlb : ys.length = lb at *
  go_wp2
  go_loopw [21, 23, 70] (fun kk _ i wr => ∃ j k : Nat, j ≤ lb ∧ i = .int .i64 j ∧ kk = .int .i64 k ∧ k ≤ la ∧ (xs.drop k).Sublist (ys.drop j) ∧ wr = y2) (fun _ _ i _ => lb - (intOf i).toNat)
  case atStart => exact ⟨0, 0, Nat.zero_le _, rfl, rfl, Nat.zero_le _, hsub, rfl⟩
  case round =>
    obtain ⟨j, k, hj, rfl, rfl, hk, hs, rfl⟩ := hrel
    by_cases hlt : j < lb
    · have hjI : (j : Int) < (lb : Int) := by omega
      obtain ⟨bb, ob, rfl, hbb, hcb⟩ := Rb.at_ (show j < ys.length by omega)
      rw [List.drop_eq_getElem_cons (show j < ys.length by omega)] at hs
      have hs2 := sub_next hs
      have ey : ys.getD j 0 = ys[j]'(by omega) := by simp [List.getD, show j < ys.length by omega]
      rw [← ey] at hs2
      clear ey hs
      generalize ys.getD j 0 = y at *
      by_cases hk2 : k < la
      · have hkI : (k : Int) < (la : Int) := by omega
        obtain ⟨ba, oa, rfl, hba, hca⟩ := Ra.at_ (show k < xs.length by omega)
        generalize xs.getD k 0 = x at *
        by_cases hxy : x = y
        · rw [if_pos ⟨by omega, hxy⟩] at hs2
          subst hxy
          go_wp2
          all_goals go_roundw
          case rel => exact ⟨j + 1, k + 1, by omega, by go_num, by go_num, by omega, hs2, trivial⟩
          case measure => simp [intOf]; omega
        · rw [if_neg fun h => hxy h.2] at hs2
          go_wp2
          all_goals go_roundw
          case rel => exact ⟨j + 1, k, by omega, by go_num, rfl, by omega, hs2, trivial⟩
          case measure => simp [intOf]; omega
      · rw [if_neg fun h => hk2 (by omega)] at hs2
        have hkI : ¬ (k : Int) < (la : Int) := by omega
        go_wp2
        all_goals go_roundw
        case rel => exact ⟨j + 1, k, by omega, by go_num, rfl, by omega, hs2, trivial⟩
        case measure => simp [intOf]; omega
    · obtain rfl : j = lb := by omega
      rw [List.drop_eq_nil_of_le (by omega : ys.length ≤ j)] at hs
      have := List.eq_nil_of_sublist_nil hs
      have hkl : k = la := by
        have := congrArg List.length this
        rw [List.length_drop] at this
        simp at this
        omega
      subst hkl
      go_wp2
      all_goals go_ret
      all_goals exact ⟨rfl, M4⟩

set_option maxRecDepth 100000 in
theorem lifted (os : Os) (started : os.Started) (H : Type) (enc : TypeId × Value → H) :
    ReturnsInHanded {} Try.checked os 5 .any (Rows.lossGrowsSpec.pre6 enc Try.prog Try.f5 Rows.lossGrowsRow.domain false) (Rows.lossGrowsSpec.post enc Try.prog Try.f5 false true false false) := by
  refine returnsInHanded_of_change (C := Try.checked) own started (by kernel_rfl) Try.func5
    (ChangeSpec.witness6 (enc := enc) (C := Try.checked) false ⟨#[], #[.int .u8 0, .slice none 0 0, .int .u8 0, .int .u8 0, .int .u16 0, .int .u16 0, .int .u16 0], []⟩ 8 (by kernel_rfl) (by kernel_rfl) (by kernel_rfl) (by kernel_rfl)) ?_
  intro W base args ds gs before hval0 hW hcnd _
  have hval : ∀ (j : Nat) t v, Try.f5.params[j]? = some t → args[j]? = some v → Value.okWide Try.prog W .any base t v := hval0
  have hW' := hW
  obtain ⟨p, q, hA0, hV, rfl, hfz, hnd⟩ := hW
  have hA : DataW.TrodAll enc Try.prog W 0 (fun _ => true) true Try.f5.params.toList args.toList ds p := hA0
  rw [Try.params5] at hA hval
  obtain ⟨v0, vs0, d0, ds0, p0, q0, hargs, rfl, rfl, h0, r0⟩ := trodAll_cons hA
  obtain ⟨v1, vs1, d1, ds1, p1, q1, rfl, rfl, rfl, h1, r1⟩ := trodAll_cons r0
  obtain ⟨v2, vs2, d2, ds2, p2, q2, rfl, rfl, rfl, h2, r2⟩ := trodAll_cons r1
  obtain ⟨v3, vs3, d3, ds3, p3, q3, rfl, rfl, rfl, h3, r3⟩ := trodAll_cons r2
  obtain ⟨v4, vs4, d4, ds4, p4, q4, rfl, rfl, rfl, h4, r4⟩ := trodAll_cons r3
  obtain ⟨v5, vs5, d5, ds5, p5, q5, rfl, rfl, rfl, h5, r5⟩ := trodAll_cons r4
  obtain ⟨v6, vs6, d6, ds6, p6, q6, rfl, rfl, rfl, h6, r6⟩ := trodAll_cons r5
  obtain ⟨rfl, rfl, rfl⟩ := trodAll_nil r6
  obtain rfl : args = #[v0, v1, v2, v3, v4, v5, v6] := by cases args; simp_all
  obtain ⟨rfl, rfl⟩ := trodVars_none hV
  obtain ⟨a0, rfl, rfl, rfl, w0⟩ := open_int Try.underlying5 (hval 0 5 v0 rfl rfl) h0
  obtain ⟨a1, len1, cap1, rfl⟩ := okWide_slice Try.underlying22 (hval 1 22 v1 rfl rfl)
  have k1 := h1
  have lt1 : ∀ x ∈ p1, x.block < W.heap.size := by obtain ⟨m, hm⟩ := k1; exact DataW.trod_lt m _ _ _ hm
  obtain ⟨z1, w1, n1, m1, o1, f1⟩ : ∃ zs, Deeds W a1 zs ∧ zs.length = len1 ∧ len1 ≤ cap1 ∧ cap1 ≤ maxLen ∧ (∀ d ∈ zs, Fit d) := by
    obtain ⟨fuel, hf⟩ := h1
    rcases open_deeds Try.underlying22 Try.underlying52 (by kernel_rfl) (by kernel_rfl) Try.underlying3 Try.underlying23 Try.underlying23 hf with ⟨hcs, hx⟩ | ⟨x, l, c, zs, E, S, hcs, hl, hm, hz, hx, hE, hS, hsp, hwz⟩
    · simp [Value.cells] at hcs
      obtain ⟨rfl, rfl, rfl⟩ := hcs
      exact ⟨[], Deeds.nil _ _, rfl, Nat.le_refl _, Nat.zero_le _, fun _ h => by cases h⟩
    · simp [Value.cells] at hcs
      obtain ⟨rfl, rfl, rfl⟩ := hcs
      exact ⟨zs, hsp, hz, hl, hm, hwz⟩
  obtain ⟨a2, rfl, rfl, rfl, w2⟩ := open_int Try.underlying5 (hval 2 5 v2 rfl rfl) h2
  obtain ⟨a3, rfl, rfl, rfl, w3⟩ := open_int Try.underlying5 (hval 3 5 v3 rfl rfl) h3
  obtain ⟨a4, rfl, rfl, rfl, w4⟩ := open_int Try.underlying38 (hval 4 38 v4 rfl rfl) h4
  obtain ⟨a5, rfl, rfl, rfl, w5⟩ := open_int Try.underlying38 (hval 5 38 v5 rfl rfl) h5
  obtain ⟨a6, rfl, rfl, rfl, w6⟩ := open_int Try.underlying38 (hval 6 38 v6 rfl rfl) h6
  clear hA0 hval0
  refine (walk a0 a1 len1 cap1 z1 a2 a3 a4 a5 a6 W w0 w1 n1 m1 o1 f1 w2 w3 w4 w5 w6).mono fun e W' ⟨he, bel⟩ => ?_
  subst he
  exact ⟨_, rfl, _, _, _, [], _, [], hW', trodAll_mk1 (shut_bool Try.underlying4 _), (trodAll_cons_mk (shut_int Try.underlying5 w0) (trodAll_cons_mk (Below.trod laidOut (by kernel_rfl) (of_decide_eq_true (by kernel_rfl)) k1 bel lt1) (trodAll_cons_mk (shut_int Try.underlying5 w2) (trodAll_cons_mk (shut_int Try.underlying5 w3) (trodAll_cons_mk (shut_int Try.underlying38 w4) (trodAll_cons_mk (shut_int Try.underlying38 w5) (trodAll_cons_mk (shut_int Try.underlying38 w6) trodAll_mk0))))))), rfl, bel.frame _, fun h => by cases h⟩

theorem over : Rows.lossGrowsRow.holds Try.pinned (OpenSpec.ofChange Rows.lossGrowsSpec) :=
  OpenClaim.holds_of_wide 5 Try.f5 rfl rfl rfl rfl rfl rfl rfl ⟨rfl, rfl, rfl, rfl, rfl⟩ rfl rfl rfl rfl rfl (by kernel_rfl) Try.func5 (by kernel_rfl)
    (of_decide_eq_true (by kernel_rfl)) (by unfold Func.isWrapper; first | (rw [if_pos (by decide +kernel)]; kernel_rfl) | (rw [if_neg (by decide +kernel)]; exact ⟨rfl, rfl⟩))
    (fun os started H enc _ => lifted os started H enc)

/-- The given statement. -/
theorem proved : Rows.LossGrowsSaid :=
  over
#print axioms proved
end Go.Proofs.Ytoncominjgkjoaa.lossGrows
