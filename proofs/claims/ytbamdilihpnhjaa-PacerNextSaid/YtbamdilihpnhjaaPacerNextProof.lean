/-
  Bytes may go at the time that is told, and not a microsecond ahead. No conditions.
-/
import Derived.Test.YtbamdilihpnhjaaRows
import Derived.Test.YtbamdilihpnhjaaRow
import Derived.WalkKit
import Derived.ProofKit
import Derived.OpenShut
import Derived.ShutString
import Derived.ChangeOld
import Derived.Below
import Derived.Test.YtbamdilihpnhjaaPacerAlive
import Derived.Test.YtbamdilihpnhjaaPacerMore
namespace Go.Proofs.Ytbamdilihpnhjaa.pacerNext
open Go.ChangeShapes Go.WideShapes Go.ChangeAt Go.RowKit
open Go.ChangeMaps (open_string shut_string)
open Go.Proofs.Ytbamdilihpnhjaa.Base
set_option linter.unusedVariables false
set_option linter.unusedSimpArgs false

theorem own : ownKnob Try.prog.godebug = none := by kernel_rfl
theorem laidOut : laidOutB Try.prog = true := by kernel_rfl

open Go.Proofs.Ytbamdilihpnhjaa.Pacer Go.Proofs.Ytbamdilihpnhjaa.PacerPlain Go.Proofs.Ytbamdilihpnhjaa.RenoPlain Go.Proofs.Ytbamdilihpnhjaa.Reno Go.Proofs.Ytbamdilihpnhjaa.Hop
set_option maxHeartbeats 4000000 in
set_option maxRecDepth 20000 in
theorem walk (a0 : Int) (a1 : Int) (a2 : Int) (a3 : Int) (a4 : Int) (a5 : Int) (w : World) (w0 : (Lit.int .u32 a0).wf = true) (w1 : (Lit.int .u32 a1).wf = true) (w2 : (Lit.int .u32 a2).wf = true) (w3 : (Lit.int .u16 a3).wf = true) (w4 : (Lit.int .u32 a4).wf = true) (w5 : (Lit.int .u16 a5).wf = true) :
    Calls Try.prog 5 #[.int .u32 a0, .int .u32 a1, .int .u32 a2, .int .u16 a3, .int .u32 a4, .int .u16 a5] w fun e w' => e = .returned (.bool true) ∧ Below w.heap.size w w' := by
  obtain ⟨n00, n01⟩ := Base.u32_of w0
  obtain ⟨n10, n11⟩ := Base.u32_of w1
  obtain ⟨n20, n21⟩ := Base.u32_of w2
  obtain ⟨n30, n31⟩ := Base.u16_of w3
  obtain ⟨n40, n41⟩ := Base.u32_of w4
  obtain ⟨n50, n51⟩ := Base.u16_of w5
  have hp : PFit ⟨a0, a1, a2⟩ := ⟨⟨n00, by show a0 ≤ _; omega⟩, ⟨n10, by show a1 ≤ _; omega⟩, ⟨n20, by show a2 ≤ _; omega⟩⟩
  have hb : U (a3 + 1) := ⟨by omega, by omega⟩
  have hn : U a4 := ⟨n40, by omega⟩
  have hs : U a5 := ⟨n50, by omega⟩
  have CA := fun V => alive_pacer V
  have CN := fun V => next_any ⟨a0, a1, a2⟩ hp (a3 + 1) a4 a5 hb hn hs V
  have hN := next_is n00 n01 n10 n11 n20 n21 (show 1 ≤ a3 + 1 by omega) (show a3 + 1 ≤ 65536 by omega) n40 n41 n50 n51
  generalize ht : nextP ⟨a0, a1, a2⟩ (a3 + 1) a4 a5 = t at *
  unfold pc at CN
  simp only at CN
  rcases hN with ⟨e1, e2⟩ | ⟨e1, e2, e3, e4, e5⟩
  · subst e1
    have C1 := fun V => take_any ⟨a0, a1, a2⟩ hp (a3 + 1) 4611686018427387904 a5 hb ⟨by decide, by decide⟩ hs V
    rw [e2] at C1
    clear e2 ht
    generalize takeP ⟨a0, a1, a2⟩ (a3 + 1) 4611686018427387904 a5 = q1 at *
    unfold pc at C1
    simp only at C1
    go_enter Try.func5, Try.ntmps5
    go_upto_region 3 with fail
    refine at_any ?_
    intro W hW
    obtain ⟨pB, hL⟩ : Blk W w.heap.size #[.int .u64 a0, .int .u64 a1, .int .u64 a2] 24 ∧ Below w.heap.size w W := by
      subst hW
      exact ⟨Blk.new _ _ _, (Below.refl _ _).alloc (Nat.le_refl _) _⟩
    clear hW
    have lt_pB := pB.lt
    have pB_0 : _ = some (Value.int .u64 a0) := pB.cell 0
    have pB_1 : _ = some (Value.int .u64 a1) := pB.cell 1
    have pB_2 : _ = some (Value.int .u64 a2) := pB.cell 2
    go_wp2_with (first
      | (go_at_call 7; (with_reducible refine (CA _).mono ?_); rintro x' y1 ⟨rfl, L1⟩; replace pB := pB.below L1 lt_pB; replace hL := Base.next hL L1; replace lt_pB := pB.lt; replace pB_0 : _ = some (Value.int .u64 a0) := pB.cell 0; replace pB_1 : _ = some (Value.int .u64 a1) := pB.cell 1; replace pB_2 : _ = some (Value.int .u64 a2) := pB.cell 2; clear CA)
      | (go_at_call 10; (with_reducible refine (CN _).mono ?_); rintro x' y2 ⟨rfl, L2⟩; replace pB := pB.below L2 lt_pB; replace hL := Base.next hL L2; replace lt_pB := pB.lt; replace pB_0 : _ = some (Value.int .u64 a0) := pB.cell 0; replace pB_1 : _ = some (Value.int .u64 a1) := pB.cell 1; replace pB_2 : _ = some (Value.int .u64 a2) := pB.cell 2; clear CN)
      | (go_at_call 8; (with_reducible refine (C1 _).mono ?_); rintro x' y3 ⟨rfl, L3⟩; replace pB := pB.below L3 lt_pB; replace hL := Base.next hL L3; replace lt_pB := pB.lt; replace pB_0 : _ = some (Value.int .u64 a0) := pB.cell 0; replace pB_1 : _ = some (Value.int .u64 a1) := pB.cell 1; replace pB_2 : _ = some (Value.int .u64 a2) := pB.cell 2; clear C1))
    all_goals first | (exfalso; omega) | skip
    all_goals go_ret
    all_goals first | exact ⟨rfl, hL⟩ | exact ⟨rfl, hL.alloc hL.size _⟩
  · have ht0 : 0 ≤ t := by omega
    have htU : U t := ⟨ht0, by omega⟩
    have C1 := fun V => take_any ⟨a0, a1, a2⟩ hp (a3 + 1) t a5 hb htU hs V
    rw [e2] at C1
    clear ht e2
    generalize takeP ⟨a0, a1, a2⟩ (a3 + 1) t a5 = q1 at *
    unfold pc at C1
    simp only at C1
    by_cases hm : max a4 a1 < t
    · have C2 := fun V => take_any ⟨a0, a1, a2⟩ hp (a3 + 1) (t - 1) a5 hb ⟨by omega, by omega⟩ hs V
      rw [e5 hm] at C2
      clear e5
      generalize takeP ⟨a0, a1, a2⟩ (a3 + 1) (t - 1) a5 = q2 at *
      unfold pc at C2
      simp only at C2
      go_enter Try.func5, Try.ntmps5
      go_upto_region 3 with fail
      refine at_any ?_
      intro W hW
      obtain ⟨pB, hL⟩ : Blk W w.heap.size #[.int .u64 a0, .int .u64 a1, .int .u64 a2] 24 ∧ Below w.heap.size w W := by
        subst hW
        exact ⟨Blk.new _ _ _, (Below.refl _ _).alloc (Nat.le_refl _) _⟩
      clear hW
      have lt_pB := pB.lt
      have pB_0 : _ = some (Value.int .u64 a0) := pB.cell 0
      have pB_1 : _ = some (Value.int .u64 a1) := pB.cell 1
      have pB_2 : _ = some (Value.int .u64 a2) := pB.cell 2
      go_wp2_with (first
        | (go_at_call 7; (with_reducible refine (CA _).mono ?_); rintro x' y1 ⟨rfl, L1⟩; replace pB := pB.below L1 lt_pB; replace hL := Base.next hL L1; replace lt_pB := pB.lt; replace pB_0 : _ = some (Value.int .u64 a0) := pB.cell 0; replace pB_1 : _ = some (Value.int .u64 a1) := pB.cell 1; replace pB_2 : _ = some (Value.int .u64 a2) := pB.cell 2; clear CA)
        | (go_at_call 10; (with_reducible refine (CN _).mono ?_); rintro x' y2 ⟨rfl, L2⟩; replace pB := pB.below L2 lt_pB; replace hL := Base.next hL L2; replace lt_pB := pB.lt; replace pB_0 : _ = some (Value.int .u64 a0) := pB.cell 0; replace pB_1 : _ = some (Value.int .u64 a1) := pB.cell 1; replace pB_2 : _ = some (Value.int .u64 a2) := pB.cell 2; clear CN)
        | (go_at_call 8; (with_reducible refine (C1 _).mono ?_); rintro x' y3 ⟨rfl, L3⟩; replace pB := pB.below L3 lt_pB; replace hL := Base.next hL L3; replace lt_pB := pB.lt; replace pB_0 : _ = some (Value.int .u64 a0) := pB.cell 0; replace pB_1 : _ = some (Value.int .u64 a1) := pB.cell 1; replace pB_2 : _ = some (Value.int .u64 a2) := pB.cell 2; clear C1)
        | (go_at_call 8; (with_reducible refine (C2 _).mono ?_); rintro x' y4 ⟨rfl, L4⟩; replace hL := Base.next (hL.alloc hL.size _) L4; clear C2))
      all_goals first | (exfalso; omega) | skip
      all_goals go_ret
      all_goals first | exact ⟨rfl, hL⟩ | exact ⟨rfl, hL.alloc hL.size _⟩
    · clear e5
      go_enter Try.func5, Try.ntmps5
      go_upto_region 3 with fail
      refine at_any ?_
      intro W hW
      obtain ⟨pB, hL⟩ : Blk W w.heap.size #[.int .u64 a0, .int .u64 a1, .int .u64 a2] 24 ∧ Below w.heap.size w W := by
        subst hW
        exact ⟨Blk.new _ _ _, (Below.refl _ _).alloc (Nat.le_refl _) _⟩
      clear hW
      have lt_pB := pB.lt
      have pB_0 : _ = some (Value.int .u64 a0) := pB.cell 0
      have pB_1 : _ = some (Value.int .u64 a1) := pB.cell 1
      have pB_2 : _ = some (Value.int .u64 a2) := pB.cell 2
      go_wp2_with (first
        | (go_at_call 7; (with_reducible refine (CA _).mono ?_); rintro x' y1 ⟨rfl, L1⟩; replace pB := pB.below L1 lt_pB; replace hL := Base.next hL L1; replace lt_pB := pB.lt; replace pB_0 : _ = some (Value.int .u64 a0) := pB.cell 0; replace pB_1 : _ = some (Value.int .u64 a1) := pB.cell 1; replace pB_2 : _ = some (Value.int .u64 a2) := pB.cell 2; clear CA)
        | (go_at_call 10; (with_reducible refine (CN _).mono ?_); rintro x' y2 ⟨rfl, L2⟩; replace pB := pB.below L2 lt_pB; replace hL := Base.next hL L2; replace lt_pB := pB.lt; replace pB_0 : _ = some (Value.int .u64 a0) := pB.cell 0; replace pB_1 : _ = some (Value.int .u64 a1) := pB.cell 1; replace pB_2 : _ = some (Value.int .u64 a2) := pB.cell 2; clear CN)
        | (go_at_call 8; (with_reducible refine (C1 _).mono ?_); rintro x' y3 ⟨rfl, L3⟩; replace pB := pB.below L3 lt_pB; replace hL := Base.next hL L3; replace lt_pB := pB.lt; replace pB_0 : _ = some (Value.int .u64 a0) := pB.cell 0; replace pB_1 : _ = some (Value.int .u64 a1) := pB.cell 1; replace pB_2 : _ = some (Value.int .u64 a2) := pB.cell 2; clear C1))
      all_goals first | (exfalso; omega) | skip
      all_goals go_ret
      all_goals first | exact ⟨rfl, hL⟩ | exact ⟨rfl, hL.alloc hL.size _⟩

set_option maxRecDepth 100000 in
theorem lifted (os : Os) (started : os.Started) (H : Type) (enc : TypeId × Value → H) :
    ReturnsInHanded {} Try.checked os 5 .any (Rows.pacerNextSpec.pre6 enc Try.prog Try.f5 Rows.pacerNextRow.domain false) (Rows.pacerNextSpec.post enc Try.prog Try.f5 false true false false) := by
  refine returnsInHanded_of_change (C := Try.checked) own started (by kernel_rfl) Try.func5
    (ChangeSpec.witness6 (enc := enc) (C := Try.checked) false ⟨#[], #[.int .u32 0, .int .u32 0, .int .u32 0, .int .u16 0, .int .u32 0, .int .u16 0], []⟩ 8 (by kernel_rfl) (by kernel_rfl) (by kernel_rfl) (by kernel_rfl)) ?_
  intro W base args ds gs before hval0 hW hcnd _
  have hval : ∀ (j : Nat) t v, Try.f5.params[j]? = some t → args[j]? = some v → Value.okWide Try.prog W .any base t v := hval0
  have hW' := hW
  obtain ⟨p, q, hA0, hV, rfl, hfz, hnd⟩ := hW
  have hA : DataW.TrodAll enc Try.prog W 0 (fun _ => true) true Try.f5.params.toList args.toList ds p := hA0
  rw [Try.params5] at hA hval
  obtain ⟨v0, vs0, d0, ds0, p0, q0, hargs, rfl, rfl, h0, r0⟩ := trodAll_cons hA
  obtain ⟨v1, vs1, d1, ds1, p1, q1, rfl, rfl, rfl, h1, r1⟩ := trodAll_cons r0
  obtain ⟨v2, vs2, d2, ds2, p2, q2, rfl, rfl, rfl, h2, r2⟩ := trodAll_cons r1
  obtain ⟨v3, vs3, d3, ds3, p3, q3, rfl, rfl, rfl, h3, r3⟩ := trodAll_cons r2
  obtain ⟨v4, vs4, d4, ds4, p4, q4, rfl, rfl, rfl, h4, r4⟩ := trodAll_cons r3
  obtain ⟨v5, vs5, d5, ds5, p5, q5, rfl, rfl, rfl, h5, r5⟩ := trodAll_cons r4
  obtain ⟨rfl, rfl, rfl⟩ := trodAll_nil r5
  obtain rfl : args = #[v0, v1, v2, v3, v4, v5] := by cases args; simp_all
  obtain ⟨rfl, rfl⟩ := trodVars_none hV
  obtain ⟨a0, rfl, rfl, rfl, w0⟩ := open_int Try.underlying31 (hval 0 31 v0 rfl rfl) h0
  obtain ⟨a1, rfl, rfl, rfl, w1⟩ := open_int Try.underlying31 (hval 1 31 v1 rfl rfl) h1
  obtain ⟨a2, rfl, rfl, rfl, w2⟩ := open_int Try.underlying31 (hval 2 31 v2 rfl rfl) h2
  obtain ⟨a3, rfl, rfl, rfl, w3⟩ := open_int Try.underlying32 (hval 3 32 v3 rfl rfl) h3
  obtain ⟨a4, rfl, rfl, rfl, w4⟩ := open_int Try.underlying31 (hval 4 31 v4 rfl rfl) h4
  obtain ⟨a5, rfl, rfl, rfl, w5⟩ := open_int Try.underlying32 (hval 5 32 v5 rfl rfl) h5
  clear hA0 hval0
  refine (walk a0 a1 a2 a3 a4 a5 W w0 w1 w2 w3 w4 w5).mono fun e W' ⟨he, bel⟩ => ?_
  subst he
  exact ⟨_, rfl, _, _, _, [], _, [], hW', trodAll_mk1 (shut_bool Try.underlying4 _), (trodAll_cons_mk (shut_int Try.underlying31 w0) (trodAll_cons_mk (shut_int Try.underlying31 w1) (trodAll_cons_mk (shut_int Try.underlying31 w2) (trodAll_cons_mk (shut_int Try.underlying32 w3) (trodAll_cons_mk (shut_int Try.underlying31 w4) (trodAll_cons_mk (shut_int Try.underlying32 w5) trodAll_mk0)))))), rfl, bel.frame _, fun h => by cases h⟩

theorem over : Rows.pacerNextRow.holds Try.pinned (OpenSpec.ofChange Rows.pacerNextSpec) :=
  OpenClaim.holds_of_wide 5 Try.f5 rfl rfl rfl rfl rfl rfl rfl ⟨rfl, rfl, rfl, rfl, rfl⟩ rfl rfl rfl rfl rfl (by kernel_rfl) Try.func5 (by kernel_rfl)
    (of_decide_eq_true (by kernel_rfl)) (by unfold Func.isWrapper; first | (rw [if_pos (by decide +kernel)]; kernel_rfl) | (rw [if_neg (by decide +kernel)]; exact ⟨rfl, rfl⟩))
    (fun os started H enc _ => lifted os started H enc)

/-- The given statement. -/
theorem proved : Rows.PacerNextSaid :=
  over
#print axioms proved
end Go.Proofs.Ytbamdilihpnhjaa.pacerNext
