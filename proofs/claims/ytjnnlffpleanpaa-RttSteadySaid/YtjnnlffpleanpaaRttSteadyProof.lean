/-
  One measure again and again is the smoothed time, and its variance falls to nothing. No conditions.
-/
import Derived.Test.YtjnnlffpleanpaaRows
import Derived.Test.YtjnnlffpleanpaaRow
import Derived.WalkKit
import Derived.ProofKit
import Derived.OpenShut
import Derived.ShutString
import Derived.ChangeOld
import Derived.Below
import Derived.Test.YtjnnlffpleanpaaRttAlive
import Derived.Test.YtjnnlffpleanpaaRttRow
namespace Go.Proofs.Ytjnnlffpleanpaa.rttSteady
open Go.ChangeShapes Go.WideShapes Go.ChangeAt Go.RowKit
open Go.ChangeMaps (open_string shut_string)
open Go.Proofs.Ytjnnlffpleanpaa.Base
set_option linter.unusedVariables false
set_option linter.unusedSimpArgs false

theorem own : ownKnob Try.prog.godebug = none := by kernel_rfl
theorem laidOut : laidOutB Try.prog = true := by kernel_rfl

open Go.Proofs.Ytjnnlffpleanpaa.Rtt Go.Proofs.Ytjnnlffpleanpaa.RttPlain Go.Proofs.Ytjnnlffpleanpaa.Hop
set_option maxHeartbeats 4000000 in
set_option maxRecDepth 20000 in
theorem walk (a0 : Int) (a1 : Int) (w : World) (w0 : (Lit.int .u32 a0).wf = true) (w1 : (Lit.int .u8 a1).wf = true) :
    Calls Try.prog 6 #[.int .u32 a0, .int .u8 a1] w fun e w' => e = .returned (.bool true) ∧ Below w.heap.size w w' := by
  obtain ⟨b0, b1⟩ := Base.u32_of w0
  obtain ⟨n0, n1⟩ := Base.u8_of w1
  have CA := fun V => alive_rtt V
  have CF := fun V => sample_any rt0 fit0 a0 b0 (by omega) V
  rw [steady_first] at CF
  have CN := fun (v : Int) (v0 : 0 ≤ v) (v1 : v ≤ 18446744073709551615) V => sample_any (steady a0 v) ⟨b0, by show a0 ≤ _; omega, b0, by show a0 ≤ _; omega, v0, v1, b0, by show a0 ≤ _; omega⟩ a0 b0 (by omega) V
  simp only [steady_next] at CN
  simp only [rcells, rt0, steady] at CF CN
  go_enter Try.func6, Try.ntmps6
  go_upto_region 4 with (first
    | (go_at_call 8; refine (CA w).mono ?_; rintro e X ⟨rfl, L1⟩)
    | (go_at_call 9; refine (CF X).mono ?_; rintro e u1 ⟨rfl, L2⟩))
  refine at_any ?_
  intro V hV
  obtain ⟨rB, hL⟩ : Blk V u1.heap.size #[.bool true, .int .u64 a0, .int .u64 a0, .int .u64 (a0 / 2), .int .u64 a0] 24 ∧ Below w.heap.size w V := by
    subst hV
    exact ⟨Blk.new _ _ _, (Base.next L1 L2).alloc (Base.next L1 L2).size _⟩
  have hb : w.heap.size ≤ u1.heap.size := (Base.next L1 L2).size
  clear hV CF CA L1 L2
  generalize u1.heap.size = rb at *
  have hk := Int.toNat_of_nonneg n0
  generalize a1.toNat = nn at hk
  subst hk
  have v00 : (0 : Int) ≤ a0 / 2 := by omega
  go_wp2
  go_loopw [6, 7] (fun i _ wr => ∃ k : Nat, k ≤ 120 + nn ∧ i = .int .i64 k ∧ Blk wr rb #[.bool true, .int .u64 a0, .int .u64 a0, .int .u64 (fallN k (a0 / 2)), .int .u64 a0] 24 ∧ Below w.heap.size w wr) (fun i _ _ => 120 + nn - (intOf i).toNat)
  case atStart => exact ⟨0, Nat.zero_le _, rfl, rB, hL⟩
  case round =>
    obtain ⟨k, hkn, rfl, hB, hM⟩ := hrel
    have v0 := fall_nonneg k v00
    have v1 := fall_le k v00
    clear rB hL
    by_cases hlt : k < 120 + nn
    · have hlI : (k : Int) < 120 + (nn : Int) := by omega
      have hf : fallN (k + 1) (a0 / 2) = 3 * fallN k (a0 / 2) / 4 := rfl
      have hq : (3 * fallN k (a0 / 2)).tdiv 4 = 3 * fallN k (a0 / 2) / 4 := Int.tdiv_eq_ediv_of_nonneg (by omega)
      have hf := Lib.hid hf
      generalize fallN k (a0 / 2) = v at *
      have CS := CN v v0 (by omega) wr
      have c0 : wr.cell? ⟨rb, 0, none⟩ = some (.bool true) := hB.cell 0
      have c1 : wr.cell? ⟨rb, 1, none⟩ = some (.int .u64 a0) := hB.cell 1
      have c2 : wr.cell? ⟨rb, 2, none⟩ = some (.int .u64 a0) := hB.cell 2
      have c3 : wr.cell? ⟨rb, 3, none⟩ = some (.int .u64 (v)) := hB.cell 3
      have c4 : wr.cell? ⟨rb, 4, none⟩ = some (.int .u64 a0) := hB.cell 4
      have hbl := hB.lt
      go_upto_region 8 with (go_at_call 9; refine CS.mono ?_; rintro e u3 ⟨rfl, L3⟩)
      refine at_any ?_
      intro Z hZ
      obtain ⟨sB, rZ, hN⟩ : Blk Z u3.heap.size #[.bool true, .int .u64 a0, .int .u64 a0, .int .u64 (3 * v / 4), .int .u64 a0] 24 ∧ Blk Z rb #[.bool true, .int .u64 a0, .int .u64 a0, .int .u64 (v), .int .u64 a0] 24 ∧ Below w.heap.size w Z := by
        subst hZ
        exact ⟨Blk.new _ _ _, (hB.below L3 hB.lt).alloc _, (Base.next hM L3).alloc (Base.next hM L3).size _⟩
      have s3 := L3.size
      clear hZ hB L3 CS c0 c1 c2 c3 c4
      have c0 : Z.cell? ⟨rb, 0, none⟩ = some (.bool true) := rZ.cell 0
      have c1 : Z.cell? ⟨rb, 1, none⟩ = some (.int .u64 a0) := rZ.cell 1
      have c2 : Z.cell? ⟨rb, 2, none⟩ = some (.int .u64 a0) := rZ.cell 2
      have c3 : Z.cell? ⟨rb, 3, none⟩ = some (.int .u64 (v)) := rZ.cell 3
      have c4 : Z.cell? ⟨rb, 4, none⟩ = some (.int .u64 a0) := rZ.cell 4
      have d0 : Z.cell? ⟨u3.heap.size, 0, none⟩ = some (.bool true) := sB.cell 0
      have d1 : Z.cell? ⟨u3.heap.size, 1, none⟩ = some (.int .u64 a0) := sB.cell 1
      have d2 : Z.cell? ⟨u3.heap.size, 2, none⟩ = some (.int .u64 a0) := sB.cell 2
      have d3 : Z.cell? ⟨u3.heap.size, 3, none⟩ = some (.int .u64 (3 * v / 4)) := sB.cell 3
      have d4 : Z.cell? ⟨u3.heap.size, 4, none⟩ = some (.int .u64 a0) := sB.cell 4
      have e1 := rZ.lt
      have e2 := sB.lt
      have hle : 3 * v / 4 ≤ v := by omega
      go_wp2_with (first
        | (refine wpList_load_row rfl 24 (.tmp 7) rfl u3.heap.size rfl 24 _ (0, 0) _ sB Try.underlying24 rfl (by kernel_rfl) ?_)
        | (refine wpl_store_row rfl 24 (.tmp 5) (.tmp 46) rfl rZ #[.bool true, .int .u64 a0, .int .u64 a0, .int .u64 (3 * v / 4), .int .u64 a0] rfl rfl (by kernel_rfl) rfl (by simp [Value.oneCell']) ?_))
      all_goals go_roundw
      case rel => exact ⟨k + 1, by omega, by go_num, by rw [hf.out]; exact rZ.setRow _, below_setRow' hN hb⟩
      case measure => simp only [intOf]; omega
    · have hlI : ¬ (k : Int) < 120 + (nn : Int) := by omega
      obtain rfl : k = 120 + nn := by omega
      have hz := fall_done v00 (by omega) nn
      have c3 : wr.cell? ⟨rb, 3, none⟩ = some (.int .u64 0) := by
        rw [← hz]
        exact hB.cell 3
      have hbl := hB.lt
      clear hB hz v0 v1
      go_wp2
      all_goals go_ret
      all_goals exact ⟨rfl, hM⟩

set_option maxRecDepth 100000 in
theorem lifted (os : Os) (started : os.Started) (H : Type) (enc : TypeId × Value → H) :
    ReturnsInHanded {} Try.checked os 6 .any (Rows.rttSteadySpec.pre6 enc Try.prog Try.f6 Rows.rttSteadyRow.domain false) (Rows.rttSteadySpec.post enc Try.prog Try.f6 false true false false) := by
  refine returnsInHanded_of_change (C := Try.checked) own started (by kernel_rfl) Try.func6
    (ChangeSpec.witness6 (enc := enc) (C := Try.checked) false ⟨#[], #[.int .u32 0, .int .u8 0], []⟩ 8 (by kernel_rfl) (by kernel_rfl) (by kernel_rfl) (by kernel_rfl)) ?_
  intro W base args ds gs before hval0 hW hcnd _
  have hval : ∀ (j : Nat) t v, Try.f6.params[j]? = some t → args[j]? = some v → Value.okWide Try.prog W .any base t v := hval0
  have hW' := hW
  obtain ⟨p, q, hA0, hV, rfl, hfz, hnd⟩ := hW
  have hA : DataW.TrodAll enc Try.prog W 0 (fun _ => true) true Try.f6.params.toList args.toList ds p := hA0
  rw [Try.params6] at hA hval
  obtain ⟨v0, vs0, d0, ds0, p0, q0, hargs, rfl, rfl, h0, r0⟩ := trodAll_cons hA
  obtain ⟨v1, vs1, d1, ds1, p1, q1, rfl, rfl, rfl, h1, r1⟩ := trodAll_cons r0
  obtain ⟨rfl, rfl, rfl⟩ := trodAll_nil r1
  obtain rfl : args = #[v0, v1] := by cases args; simp_all
  obtain ⟨rfl, rfl⟩ := trodVars_none hV
  obtain ⟨a0, rfl, rfl, rfl, w0⟩ := open_int Try.underlying32 (hval 0 32 v0 rfl rfl) h0
  obtain ⟨a1, rfl, rfl, rfl, w1⟩ := open_int Try.underlying5 (hval 1 5 v1 rfl rfl) h1
  clear hA0 hval0
  refine (walk a0 a1 W w0 w1).mono fun e W' ⟨he, bel⟩ => ?_
  subst he
  exact ⟨_, rfl, _, _, _, [], _, [], hW', trodAll_mk1 (shut_bool Try.underlying4 _), (trodAll_cons_mk (shut_int Try.underlying32 w0) (trodAll_cons_mk (shut_int Try.underlying5 w1) trodAll_mk0)), rfl, bel.frame _, fun h => by cases h⟩

theorem over : Rows.rttSteadyRow.holds Try.pinned (OpenSpec.ofChange Rows.rttSteadySpec) :=
  OpenClaim.holds_of_wide 6 Try.f6 rfl rfl rfl rfl rfl rfl rfl ⟨rfl, rfl, rfl, rfl, rfl⟩ rfl rfl rfl rfl rfl (by kernel_rfl) Try.func6 (by kernel_rfl)
    (of_decide_eq_true (by kernel_rfl)) (by unfold Func.isWrapper; first | (rw [if_pos (by decide +kernel)]; kernel_rfl) | (rw [if_neg (by decide +kernel)]; exact ⟨rfl, rfl⟩))
    (fun os started H enc _ => lifted os started H enc)

/-- The given statement. -/
theorem proved : Rows.RttSteadySaid :=
  over
#print axioms proved
end Go.Proofs.Ytjnnlffpleanpaa.rttSteady
