/-
  Of any number Put, Size, and of any word Eight are as the document defines them. No conditions beside the table of math/bits, which the card ties to the program's text.
-/
import Derived.Test.YtendfhmgacfobaaDoorTab
import Derived.Test.YtendfhmgacfobaaDoorCards
import Derived.Test.YtendfhmgacfobaaDoorTie
import Derived.SevenTiedAt
import Derived.Handed
import Derived.Test.YtendfhmgacfobaaDoorRows
import Derived.Test.YtendfhmgacfobaaDoorRow
import Derived.WalkKit
import Derived.ProofKit
import Derived.OpenShut
import Derived.ShutString
import Derived.ChangeOld
import Derived.Below
import Derived.Test.YtendfhmgacfobaaDoorOctAlive
namespace Go.Proofs.YtendfhmgacfobaaDoor.octetWrites
open Go.ChangeShapes Go.WideShapes Go.ChangeAt Go.RowKit
open Go.ChangeMaps (open_string shut_string)
open Go.Proofs.YtendfhmgacfobaaDoor.Base
set_option linter.unusedVariables false

theorem own : ownKnob Tryd.prog.godebug = none := by kernel_rfl
theorem laidOut : laidOutB Tryd.prog = true := by kernel_rfl

open Go.Proofs.YtendfhmgacfobaaDoor.Oct Go.Proofs.YtendfhmgacfobaaDoor.OctPlain Go.Proofs.YtendfhmgacfobaaDoor.Tab
set_option maxHeartbeats 8000000 in
theorem walk (a0 : Int) (a1 : Int)  (w : World) (w0 : (Lit.int .u64 a0).wf = true) (w1 : (Lit.int .u64 a1).wf = true) (hT : Tab.Tab w) :
    Calls Tryd.prog 3 #[.int .u64 a0, .int .u64 a1] w fun e w' => e = .returned (.bool true) ∧ Below w.heap.size w w' := by
  obtain ⟨p0, p1⟩ := Base.u64_of w0
  obtain ⟨q0, q1⟩ := Base.u64_of w1
  have c1 := size_any a0 p0
  have c2 := ref_size a0 p0
  generalize size a0 = k at c1 c2
  clear w0 w1
  obtain ⟨d, hd⟩ : ∃ d, decide (a0 ≤ 4611686018427387903) = d := ⟨_, rfl⟩
  go_enter Tryd.func3, Tryd.ntmps3
  go_wp2_with (first
    | (go_at_call 8; refine (alive_octet w hT).mono ?_; rintro e wa ⟨rfl, ha⟩; have hTa := hT.below ha)
    | (go_at_call 9; refine (put_any a0 wa p0 p1 hTa).mono ?_; rw [hd]; rintro e w1 ⟨b1, cap1, rfl, h1, h2, h3, R1, L1⟩; have hs1 := str_of w1.drew b1 _ cap1 (put a0) rfl R1.row))
  clear h1 h2 h3 hTa hT
  go_region_with (first
    | (go_at_call 10; refine (ref_put_new a0 w1.drew p0 p1).mono ?_; rintro e w2 ⟨b2, cap2, rfl, R2, L2⟩; have hs2 := str_of w2 b2 _ cap2 (put a0) rfl R2.row; have hs1' := str_of w2 b1 _ cap1 (put a0) rfl (R1.row.drew.below L2))
    | ((with_reducible refine (c1 _).mono ?_); rintro e w' ⟨rfl, rfl⟩)
    | ((with_reducible refine (c2 _).mono ?_); rintro e w' ⟨rfl, rfl⟩)
    | (go_at_call 13; refine (eight_any a1 w2 q0 q1).mono ?_; rintro e w3 ⟨b3, rfl, g3, B3, L3⟩; have hs3 := str_of w3 (some ⟨b3, 0, none⟩) 8 8 (be 8 a1) (be_len _ _) (rowIn_blk (S := fun _ => True) B3 trivial).row)
    | (go_at_call 14; refine (ref_eight_new a1 w3 q0 q1).mono ?_; rintro e w4 ⟨b4, cap4, rfl, R4, L4⟩; have hs4 := str_of w4 b4 _ cap4 (be 8 a1) (be_len _ _) R4.row; have hs3' := str_of w4 (some ⟨b3, 0, none⟩) 8 8 (be 8 a1) (be_len _ _) ((rowIn_blk (S := fun _ => True) B3 trivial).row.below L4)))
  all_goals go_wp2
  all_goals go_ret
  all_goals exact ⟨rfl, Base.next ha (Base.next L1 (Base.next ⟨L2.os, L2.tape, L2.output, L2.size, L2.block⟩ (Base.next L3 L4)))⟩

theorem of_laid' {W : World} (h : laidMetH Tryd.prog Rows.octetWritesRow.laid W) : Tab.Tab W := Tab.of_laid_2 h
theorem door_met (os : Os) (args : Array Value) : laidMetH Tryd.prog Rows.octetWritesRow.laid ((World.doorLaid Tryd.prog 19 os).forCall (fun _ _ => 0) ⟨#[], args, []⟩).memory :=
  laidMetH_of_parts3 (fuel := 8) (laidMet_of_run' 8 (by kernel_rfl) (by kernel_rfl)) (by kernel_rfl) (by kernel_rfl)
set_option maxRecDepth 100000 in
theorem lifted (os : Os) (started : os.Started) (H : Type) (enc : TypeId × Value → H) :
    ReturnsInHanded {} Tryd.checked os 3 .any (fun w args => (Rows.octetWritesSpec.pre enc Tryd.prog Tryd.f3 [] false w args ∧ laidMetH Tryd.prog Rows.octetWritesRow.laid w) ∧ sizedMet enc Tryd.prog Tryd.f3 (OpenSpec.ofChange Rows.octetWritesSpec) false w args) (Rows.octetWritesSpec.post enc Tryd.prog Tryd.f3 false true false false) := by
  refine returnsInHanded_of_change_and (C := Tryd.checked) (X := fun w _ => laidMetH Tryd.prog Rows.octetWritesRow.laid w) (fun _ _ _ hh h => h.of_heap hh) own started (by kernel_rfl) Tryd.func3
    (ChangeSpec.witness_shaped (enc := enc) (C := Tryd.checked) (os := os) (X := fun w _ => laidMetH Tryd.prog Rows.octetWritesRow.laid w) false (World.doorLaid Tryd.prog 19 os) #[.int .u64 0, .int .u64 0] 8 rfl (World.shaped_of_RefB (by kernel_rfl) (by kernel_rfl)) (by kernel_rfl) (by kernel_rfl) (by kernel_rfl) (door_met os _)) ?_
  intro W base args ds gs before hval0 hW _ hsz0 hL _
  have hT := of_laid' hL
  have hval : ∀ (j : Nat) t v, Tryd.f3.params[j]? = some t → args[j]? = some v → Value.okWide Tryd.prog W .any base t v := hval0
  have hW' := hW
  obtain ⟨p, q, hA0, hV, rfl, hfz, hnd⟩ := hW
  have hA : DataW.TrodAll enc Tryd.prog W 0 (fun _ => true) true Tryd.f3.params.toList args.toList ds p := hA0
  rw [Tryd.params3] at hA hval
  obtain ⟨v0, vs0, d0, ds0, p0, q0, hargs, rfl, rfl, h0, r0⟩ := trodAll_cons hA
  obtain ⟨v1, vs1, d1, ds1, p1, q1, rfl, rfl, rfl, h1, r1⟩ := trodAll_cons r0
  obtain ⟨rfl, rfl, rfl⟩ := trodAll_nil r1
  obtain rfl : args = #[v0, v1] := by cases args; simp_all
  obtain ⟨rfl, rfl⟩ := trodVars_none hV
  obtain ⟨a0, rfl, rfl, rfl, w0⟩ := open_int Tryd.underlying22 (hval 0 22 v0 rfl rfl) h0
  obtain ⟨a1, rfl, rfl, rfl, w1⟩ := open_int Tryd.underlying22 (hval 1 22 v1 rfl rfl) h1
  clear hA0 hval0
  refine (walk a0 a1 W w0 w1 hT).mono fun e W' ⟨he, bel⟩ => ?_
  subst he
  exact ⟨_, rfl, _, _, _, [], _, [], hW', trodAll_mk1 (shut_bool Tryd.underlying4 _), (trodAll_cons_mk (shut_int Tryd.underlying22 w0) (trodAll_cons_mk (shut_int Tryd.underlying22 w1) trodAll_mk0)), rfl, bel.frame _, fun h => by cases h⟩

theorem over : Rows.octetWritesRow.holds Tryd.pinned (OpenSpec.ofChange Rows.octetWritesSpec) :=
  OpenClaim.holds_of_wide 3 Tryd.f3 rfl rfl rfl rfl rfl rfl rfl ⟨rfl, rfl, rfl, rfl, rfl⟩ rfl rfl rfl rfl rfl (by kernel_rfl) Tryd.func3 (by kernel_rfl)
    (of_decide_eq_true (by kernel_rfl)) (by unfold Func.isWrapper; first | (rw [if_pos (by decide +kernel)]; kernel_rfl) | (rw [if_neg (by decide +kernel)]; exact ⟨rfl, rfl⟩))
    (fun os started H enc _ => lifted os started H enc)

/-- The given statement: the row, its listed variables tied to the program's text. -/
theorem proved : Rows.OctetWritesCardSaid :=
  Claim7.holds_tied_plain_at .later [] [.data, .data] true (true, "e23d3ad83702d537fea1bfb2e30d37bf8c61cd0cadd5d3844564589b1a2d803b") false
    over (fun _ h => by cases h) (by kernel_rfl) (fun _ h => by cases h) octetWrites_row_tie rfl ⟨rfl, rfl⟩ (by kernel_rfl) rfl
    (fun f fn hf hfn => by
      obtain rfl : f = 3 := Option.some.inj ((show Tryd.prog.funcNamed "splittally/splittallylaw6.OctetWrites" = some 3 by kernel_rfl).symm.trans hf) |>.symm
      obtain rfl : fn = Tryd.f3 := (Option.some.inj (Tryd.func3.symm.trans hfn)).symm
      exact ⟨by kernel_rfl, fun j t ht => by
        rw [Tryd.params3] at ht
        have hm : t ∈ [22, 22] := by simpa using Array.mem_of_getElem? ht
        have hall : ([22, 22].all fun u => !Tryd.prog.wantsStandIn u) = true := by kernel_rfl
        exact (show Tryd.prog.wantsStandIn t = false by simpa using List.all_eq_true.1 hall t hm)⟩)
    (by kernel_rfl)
#print axioms proved
end Go.Proofs.YtendfhmgacfobaaDoor.octetWrites
