/-
  Which codepoint bears which coin, and that all others bear none. No conditions beside the table of math/bits, which the card ties to the program's text.
-/
import Derived.Test.YtbdafmomjboaaaaDoorTab
import Derived.Test.YtbdafmomjboaaaaDoorCards
import Derived.Test.YtbdafmomjboaaaaDoorTie
import Derived.SevenTiedAt
import Derived.Handed
import Derived.Test.YtbdafmomjboaaaaDoorRows
import Derived.Test.YtbdafmomjboaaaaDoorRow
import Derived.WalkKit
import Derived.ProofKit
import Derived.OpenShut
import Derived.ShutString
import Derived.ChangeOld
import Derived.Below
import Derived.Test.YtbdafmomjboaaaaDoorHead5
namespace Go.Proofs.YtbdafmomjboaaaaDoor.headCoins
open Go.ChangeShapes Go.WideShapes Go.ChangeAt Go.RowKit
open Go.ChangeMaps (open_string shut_string)
open Go.Proofs.YtbdafmomjboaaaaDoor.Base
set_option linter.unusedVariables false

theorem own : ownKnob Tryd.prog.godebug = none := by kernel_rfl
theorem laidOut : laidOutB Tryd.prog = true := by kernel_rfl

open Go.Proofs.YtbdafmomjboaaaaDoor.Head Go.Proofs.YtbdafmomjboaaaaDoor.Oct Go.Proofs.YtbdafmomjboaaaaDoor.OctPlain Go.Proofs.YtbdafmomjboaaaaDoor.Tab
theorem walk (a0 : Int) (a1 : Bool)  (w : World) (w0 : (Lit.int .i64 a0).wf = true) (hT : Tab.Tab w) :
    Calls Tryd.prog 8 #[.int .i64 a0, .bool a1] w fun e w' => e = .returned (.bool true) ∧ Below w.heap.size w w' := by
  have C1 := fun W => coin_any a0 W
  have C2 := fun W => ecn_any a1 W
  have C3 := fun W => coin_any (if a1 then 1 else 2) W
  have h3 : decide ((if a1 then (1 : Int) else 2) = 1) = a1 := by cases a1 <;> rfl
  have h4 : (decide ((if a1 then (1 : Int) else 2) = 1) || decide ((if a1 then (1 : Int) else 2) = 2)) = true := by cases a1 <;> rfl
  rw [h4, h3] at C3
  obtain ⟨v, hv⟩ : ∃ v : Int, v = if a1 then (1 : Int) else 2 := ⟨_, rfl⟩
  rw [← hv] at C2 C3
  clear hv h3 h4
  go_enter Tryd.func8, Tryd.ntmps8
  go_wp2_with (first
    | (go_at_call 9; refine (alive_head w hT).mono ?_; rintro e wa ⟨rfl, ha⟩)
    | (go_at_call 21; refine (C2 _).mono ?_; rintro e w' ⟨rfl, rfl⟩)
    | ((with_reducible refine (C1 _).mono ?_); rintro e w' ⟨rfl, rfl⟩; clear C1)
    | ((with_reducible refine (C3 _).mono ?_); rintro e w' ⟨rfl, rfl⟩))
  all_goals go_ret
  all_goals exact ⟨Base.ret_bool (by by_cases h2 : a0 = 2 <;> simp_all), ha⟩

theorem of_laid' {W : World} (h : laidMetH Tryd.prog Rows.headCoinsRow.laid W) : Tab.Tab W := Tab.of_laid_2 h
theorem door_met (os : Os) (args : Array Value) : laidMetH Tryd.prog Rows.headCoinsRow.laid ((World.doorLaid Tryd.prog 19 os).forCall (fun _ _ => 0) ⟨#[], args, []⟩).memory :=
  laidMetH_of_parts3 (fuel := 8) (laidMet_of_run' 8 (by kernel_rfl) (by kernel_rfl)) (by kernel_rfl) (by kernel_rfl)
set_option maxRecDepth 100000 in
theorem lifted (os : Os) (started : os.Started) (H : Type) (enc : TypeId × Value → H) :
    ReturnsInHanded {} Tryd.checked os 8 .any (fun w args => (Rows.headCoinsSpec.pre enc Tryd.prog Tryd.f8 [] false w args ∧ laidMetH Tryd.prog Rows.headCoinsRow.laid w) ∧ sizedMet enc Tryd.prog Tryd.f8 (OpenSpec.ofChange Rows.headCoinsSpec) false w args) (Rows.headCoinsSpec.post enc Tryd.prog Tryd.f8 false true false false) := by
  refine returnsInHanded_of_change_and (C := Tryd.checked) (X := fun w _ => laidMetH Tryd.prog Rows.headCoinsRow.laid w) (fun _ _ _ hh h => h.of_heap hh) own started (by kernel_rfl) Tryd.func8
    (ChangeSpec.witness_shaped (enc := enc) (C := Tryd.checked) (os := os) (X := fun w _ => laidMetH Tryd.prog Rows.headCoinsRow.laid w) false (World.doorLaid Tryd.prog 19 os) #[.int .i64 0, .bool false] 8 rfl (World.shaped_of_RefB (by kernel_rfl) (by kernel_rfl)) (by kernel_rfl) (by kernel_rfl) (by kernel_rfl) (door_met os _)) ?_
  intro W base args ds gs before hval0 hW _ hsz0 hL _
  have hT := of_laid' hL
  have hval : ∀ (j : Nat) t v, Tryd.f8.params[j]? = some t → args[j]? = some v → Value.okWide Tryd.prog W .any base t v := hval0
  have hW' := hW
  obtain ⟨p, q, hA0, hV, rfl, hfz, hnd⟩ := hW
  have hA : DataW.TrodAll enc Tryd.prog W 0 (fun _ => true) true Tryd.f8.params.toList args.toList ds p := hA0
  rw [Tryd.params8] at hA hval
  obtain ⟨v0, vs0, d0, ds0, p0, q0, hargs, rfl, rfl, h0, r0⟩ := trodAll_cons hA
  obtain ⟨v1, vs1, d1, ds1, p1, q1, rfl, rfl, rfl, h1, r1⟩ := trodAll_cons r0
  obtain ⟨rfl, rfl, rfl⟩ := trodAll_nil r1
  obtain rfl : args = #[v0, v1] := by cases args; simp_all
  obtain ⟨rfl, rfl⟩ := trodVars_none hV
  obtain ⟨a0, rfl, rfl, rfl, w0⟩ := open_int Tryd.underlying3 (hval 0 3 v0 rfl rfl) h0
  obtain ⟨a1, rfl, rfl, rfl⟩ := open_bool Tryd.underlying4 (hval 1 4 v1 rfl rfl) h1
  clear hA0 hval0
  refine (walk a0 a1 W w0 hT).mono fun e W' ⟨he, bel⟩ => ?_
  subst he
  exact ⟨_, rfl, _, _, _, [], _, [], hW', trodAll_mk1 (shut_bool Tryd.underlying4 _), (trodAll_cons_mk (shut_int Tryd.underlying3 w0) (trodAll_cons_mk (shut_bool Tryd.underlying4 _) trodAll_mk0)), rfl, bel.frame _, fun h => by cases h⟩

theorem over : Rows.headCoinsRow.holds Tryd.pinned (OpenSpec.ofChange Rows.headCoinsSpec) :=
  OpenClaim.holds_of_wide 8 Tryd.f8 rfl rfl rfl rfl rfl rfl rfl ⟨rfl, rfl, rfl, rfl, rfl⟩ rfl rfl rfl rfl rfl (by kernel_rfl) Tryd.func8 (by kernel_rfl)
    (of_decide_eq_true (by kernel_rfl)) (by unfold Func.isWrapper; first | (rw [if_pos (by decide +kernel)]; kernel_rfl) | (rw [if_neg (by decide +kernel)]; exact ⟨rfl, rfl⟩))
    (fun os started H enc _ => lifted os started H enc)

/-- The given statement: the row, its listed variables tied to the program's text. -/
theorem proved : Rows.HeadCoinsCardSaid :=
  Claim7.holds_tied_plain_at .later [] [.data, .data] true (true, "82c1dd0bc4a5d0368e4cdb54e1d26816b9ccbd17d7dd11f8b3719448e7ea3cf2") false
    over (fun _ h => by cases h) (by kernel_rfl) (fun _ h => by cases h) headCoins_row_tie rfl ⟨rfl, rfl⟩ (by kernel_rfl) rfl
    (fun f fn hf hfn => by
      obtain rfl : f = 8 := Option.some.inj ((show Tryd.prog.funcNamed "splittally/splittallylaw8.HeadCoins" = some 8 by kernel_rfl).symm.trans hf) |>.symm
      obtain rfl : fn = Tryd.f8 := (Option.some.inj (Tryd.func8.symm.trans hfn)).symm
      exact ⟨by kernel_rfl, fun j t ht => by
        rw [Tryd.params8] at ht
        have hm : t ∈ [3, 4] := by simpa using Array.mem_of_getElem? ht
        have hall : ([3, 4].all fun u => !Tryd.prog.wantsStandIn u) = true := by kernel_rfl
        exact (show Tryd.prog.wantsStandIn t = false by simpa using List.all_eq_true.1 hall t hm)⟩)
    (by kernel_rfl)
#print axioms proved
end Go.Proofs.YtbdafmomjboaaaaDoor.headCoins
