/-
  A lesser number has lesser bytes. No conditions beside the table of math/bits, which the card ties to the program's text.
-/
import Derived.Test.YtendfhmgacfobaaDoorTab
import Derived.Test.YtendfhmgacfobaaDoorCards
import Derived.Test.YtendfhmgacfobaaDoorTie
import Derived.SevenTiedAt
import Derived.Handed
import Derived.Test.YtendfhmgacfobaaDoorRows
import Derived.Test.YtendfhmgacfobaaDoorRow
import Derived.WalkKit
import Derived.ProofKit
import Derived.OpenShut
import Derived.ShutString
import Derived.ChangeOld
import Derived.Below
import Derived.Test.YtendfhmgacfobaaDoorOctAlive
namespace Go.Proofs.YtendfhmgacfobaaDoor.octetOrder
open Go.ChangeShapes Go.WideShapes Go.ChangeAt Go.RowKit
open Go.ChangeMaps (open_string shut_string)
open Go.Proofs.YtendfhmgacfobaaDoor.Base
set_option linter.unusedVariables false

theorem own : ownKnob Tryd.prog.godebug = none := by kernel_rfl
theorem laidOut : laidOutB Tryd.prog = true := by kernel_rfl

open Go.Proofs.YtendfhmgacfobaaDoor.Oct Go.Proofs.YtendfhmgacfobaaDoor.OctPlain Go.Proofs.YtendfhmgacfobaaDoor.Tab
theorem walk (a0 : Int) (a1 : Int)  (w : World) (w0 : (Lit.int .u64 a0).wf = true) (w1 : (Lit.int .u64 a1).wf = true) (hT : Tab.Tab w) :
    Calls Tryd.prog 7 #[.int .u64 a0, .int .u64 a1] w fun e w' => e = .returned (.bool true) ∧ Below w.heap.size w w' := by
  obtain ⟨p0, p1⟩ := Base.u64_of w0
  obtain ⟨q0, q1⟩ := Base.u64_of w1
  have A := and_62 p0 p1
  have B := and_62 q0 q1
  clear w0 w1
  have m0 : 0 ≤ a0 % 4611686018427387904 := by omega
  have m1 : a0 % 4611686018427387904 ≤ 4611686018427387903 := by omega
  have n0 : 0 ≤ a1 % 4611686018427387904 := by omega
  have n1 : a1 % 4611686018427387904 ≤ 4611686018427387903 := by omega
  generalize a0 % 4611686018427387904 = m at *
  generalize a1 % 4611686018427387904 = n at *
  have HL := Lib.hid (show Op.bytesLess (strOfNums (put m)).toList (strOfNums (put n)).toList = decide (m < n) by rw [str_less (put_bytes m) (put_bytes n), less_put m0 m1 n0 n1])
  go_enter Tryd.func7, Tryd.ntmps7
  go_wp2_with (first
    | (go_at_call 8; refine (alive_octet w hT).mono ?_; rintro e wa ⟨rfl, ha⟩; have hTa := hT.below ha)
    | ((with_reducible refine (put_any m wa m0 (by omega) hTa).mono ?_); rintro e w1 ⟨a1, cap1, rfl, h1, h2, h3, R1, L1⟩; have hT1 := hTa.below L1)
    | ((with_reducible refine (put_any n w1 n0 (by omega) hT1).mono ?_); rintro e w2 ⟨a2, cap2, rfl, h4, h5, h6, R2, L2⟩; have hs1 := str_of w2 a1 _ cap1 (put m) rfl (R1.row.below L2); have hs2 := str_of w2 a2 _ cap2 (put n) rfl R2.row))
  all_goals go_ret
  all_goals exact ⟨Base.ret_bool (by simp [m1, n1, HL.out]), ha.trans ((L1.trans (L2.mono L1.size)).mono ha.size)⟩

theorem of_laid' {W : World} (h : laidMetH Tryd.prog Rows.octetOrderRow.laid W) : Tab.Tab W := Tab.of_laid_2 h
theorem door_met (os : Os) (args : Array Value) : laidMetH Tryd.prog Rows.octetOrderRow.laid ((World.doorLaid Tryd.prog 19 os).forCall (fun _ _ => 0) ⟨#[], args, []⟩).memory :=
  laidMetH_of_parts3 (fuel := 8) (laidMet_of_run' 8 (by kernel_rfl) (by kernel_rfl)) (by kernel_rfl) (by kernel_rfl)
set_option maxRecDepth 100000 in
theorem lifted (os : Os) (started : os.Started) (H : Type) (enc : TypeId × Value → H) :
    ReturnsInHanded {} Tryd.checked os 7 .any (fun w args => (Rows.octetOrderSpec.pre enc Tryd.prog Tryd.f7 [] false w args ∧ laidMetH Tryd.prog Rows.octetOrderRow.laid w) ∧ sizedMet enc Tryd.prog Tryd.f7 (OpenSpec.ofChange Rows.octetOrderSpec) false w args) (Rows.octetOrderSpec.post enc Tryd.prog Tryd.f7 false true false false) := by
  refine returnsInHanded_of_change_and (C := Tryd.checked) (X := fun w _ => laidMetH Tryd.prog Rows.octetOrderRow.laid w) (fun _ _ _ hh h => h.of_heap hh) own started (by kernel_rfl) Tryd.func7
    (ChangeSpec.witness_shaped (enc := enc) (C := Tryd.checked) (os := os) (X := fun w _ => laidMetH Tryd.prog Rows.octetOrderRow.laid w) false (World.doorLaid Tryd.prog 19 os) #[.int .u64 0, .int .u64 0] 8 rfl (World.shaped_of_RefB (by kernel_rfl) (by kernel_rfl)) (by kernel_rfl) (by kernel_rfl) (by kernel_rfl) (door_met os _)) ?_
  intro W base args ds gs before hval0 hW _ hsz0 hL _
  have hT := of_laid' hL
  have hval : ∀ (j : Nat) t v, Tryd.f7.params[j]? = some t → args[j]? = some v → Value.okWide Tryd.prog W .any base t v := hval0
  have hW' := hW
  obtain ⟨p, q, hA0, hV, rfl, hfz, hnd⟩ := hW
  have hA : DataW.TrodAll enc Tryd.prog W 0 (fun _ => true) true Tryd.f7.params.toList args.toList ds p := hA0
  rw [Tryd.params7] at hA hval
  obtain ⟨v0, vs0, d0, ds0, p0, q0, hargs, rfl, rfl, h0, r0⟩ := trodAll_cons hA
  obtain ⟨v1, vs1, d1, ds1, p1, q1, rfl, rfl, rfl, h1, r1⟩ := trodAll_cons r0
  obtain ⟨rfl, rfl, rfl⟩ := trodAll_nil r1
  obtain rfl : args = #[v0, v1] := by cases args; simp_all
  obtain ⟨rfl, rfl⟩ := trodVars_none hV
  obtain ⟨a0, rfl, rfl, rfl, w0⟩ := open_int Tryd.underlying22 (hval 0 22 v0 rfl rfl) h0
  obtain ⟨a1, rfl, rfl, rfl, w1⟩ := open_int Tryd.underlying22 (hval 1 22 v1 rfl rfl) h1
  clear hA0 hval0
  refine (walk a0 a1 W w0 w1 hT).mono fun e W' ⟨he, bel⟩ => ?_
  subst he
  exact ⟨_, rfl, _, _, _, [], _, [], hW', trodAll_mk1 (shut_bool Tryd.underlying4 _), (trodAll_cons_mk (shut_int Tryd.underlying22 w0) (trodAll_cons_mk (shut_int Tryd.underlying22 w1) trodAll_mk0)), rfl, bel.frame _, fun h => by cases h⟩

theorem over : Rows.octetOrderRow.holds Tryd.pinned (OpenSpec.ofChange Rows.octetOrderSpec) :=
  OpenClaim.holds_of_wide 7 Tryd.f7 rfl rfl rfl rfl rfl rfl rfl ⟨rfl, rfl, rfl, rfl, rfl⟩ rfl rfl rfl rfl rfl (by kernel_rfl) Tryd.func7 (by kernel_rfl)
    (of_decide_eq_true (by kernel_rfl)) (by unfold Func.isWrapper; first | (rw [if_pos (by decide +kernel)]; kernel_rfl) | (rw [if_neg (by decide +kernel)]; exact ⟨rfl, rfl⟩))
    (fun os started H enc _ => lifted os started H enc)

/-- The given statement: the row, its listed variables tied to the program's text. -/
theorem proved : Rows.OctetOrderCardSaid :=
  Claim7.holds_tied_plain_at .later [] [.data, .data] true (true, "e23d3ad83702d537fea1bfb2e30d37bf8c61cd0cadd5d3844564589b1a2d803b") false
    over (fun _ h => by cases h) (by kernel_rfl) (fun _ h => by cases h) octetOrder_row_tie rfl ⟨rfl, rfl⟩ (by kernel_rfl) rfl
    (fun f fn hf hfn => by
      obtain rfl : f = 7 := Option.some.inj ((show Tryd.prog.funcNamed "splittally/splittallylaw6.OctetOrder" = some 7 by kernel_rfl).symm.trans hf) |>.symm
      obtain rfl : fn = Tryd.f7 := (Option.some.inj (Tryd.func7.symm.trans hfn)).symm
      exact ⟨by kernel_rfl, fun j t ht => by
        rw [Tryd.params7] at ht
        have hm : t ∈ [22, 22] := by simpa using Array.mem_of_getElem? ht
        have hall : ([22, 22].all fun u => !Tryd.prog.wantsStandIn u) = true := by kernel_rfl
        exact (show Tryd.prog.wantsStandIn t = false by simpa using List.all_eq_true.1 hall t hm)⟩)
    (by kernel_rfl)
#print axioms proved
end Go.Proofs.YtendfhmgacfobaaDoor.octetOrder
