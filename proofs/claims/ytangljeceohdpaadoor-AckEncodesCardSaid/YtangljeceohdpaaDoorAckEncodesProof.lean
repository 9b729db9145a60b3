/-
  Any acknowledgment is encoded as the document defines it, or it may not be. No conditions beside the table of math/bits, which the card ties to the program's text.
-/
import Derived.Test.YtangljeceohdpaaDoorAckRow
import Derived.Test.YtangljeceohdpaaDoorSpanRow
import Derived.Test.YtangljeceohdpaaDoorTab
import Derived.Test.YtangljeceohdpaaDoorCards
import Derived.Test.YtangljeceohdpaaDoorTie
import Derived.SevenTiedAt
import Derived.Handed
import Derived.Test.YtangljeceohdpaaDoorRows
import Derived.Test.YtangljeceohdpaaDoorRow
import Derived.WalkKit
import Derived.ProofKit
import Derived.OpenShut
import Derived.ShutString
import Derived.ChangeOld
import Derived.Below
import Derived.Test.YtangljeceohdpaaDoorAckAlive
namespace Go.Proofs.YtangljeceohdpaaDoor.ackEncodes
open Go.ChangeShapes Go.WideShapes Go.ChangeAt Go.RowKit
open Go.ChangeMaps (open_string shut_string)
open Go.Proofs.YtangljeceohdpaaDoor.Base Go.Proofs.YtangljeceohdpaaDoor.SpanPlain Go.Proofs.YtangljeceohdpaaDoor.AckPlain
set_option linter.unusedVariables false

theorem own : ownKnob Tryd.prog.godebug = none := by kernel_rfl
theorem laidOut : laidOutB Tryd.prog = true := by kernel_rfl

open Go.Proofs.YtangljeceohdpaaDoor.Ack Go.Proofs.YtangljeceohdpaaDoor.Oct Go.Proofs.YtangljeceohdpaaDoor.OctPlain Go.Proofs.YtangljeceohdpaaDoor.Tab
open Go.Proofs.YtangljeceohdpaaDoor.AckPlain (putAck Fit)
set_option maxHeartbeats 8000000 in
theorem walk (x0 : K) (a0 : Option Addr) (len0 cap0 : Nat) (b0 : Option Addr) (lem0 cam0 : Nat)  (w : World) (n0 : x0.spans.length = len0 ∧ len0 ≤ cap0 ∧ cap0 ≤ maxLen ∧ (a0 = none → len0 = 0 ∧ cap0 = 0) ∧ Spans w a0 x0.spans) (m0 : x0.marked.length = lem0 ∧ lem0 ≤ cam0 ∧ cam0 ≤ maxLen ∧ (b0 = none → lem0 = 0 ∧ cam0 = 0) ∧ Spans w b0 x0.marked) (f0 : Words9 x0) (hT : Tab.Tab w) :
    Calls Tryd.prog 3 #[.agg #[.slice a0 len0 cap0, .slice b0 lem0 cam0, .int .u64 x0.trigger, .int .u64 x0.xor, .bool x0.parity]] w fun e w' => e = .returned (.bool true) ∧ Below w.heap.size w w' := by
  obtain ⟨hfs, hfm, hft, hfx⟩ := f0
  obtain ⟨n0, na, nb, nc, hs⟩ := n0
  obtain ⟨m0, ma, mb, mc, ht⟩ := m0
  unfold maxLen at nb mb
  have hl : len0 ≤ 9223372036854775807 := by omega
  have hl' : lem0 ≤ 9223372036854775807 := by omega
  have C1 := fun W h1 h2 => may_any x0 a0 b0 len0 cap0 lem0 cam0 W n0 m0 hl hl' hfs hfm h1 h2
  have C2 := fun W h1 h2 => ref_may_ack x0 a0 b0 len0 cap0 lem0 cam0 W n0 m0 hl hl' hfs hfm h1 h2
  have hB0 := Blk.new w #[.slice a0 len0 cap0, .slice b0 lem0 cam0, .int .u64 x0.trigger, .int .u64 x0.xor, .bool x0.parity] 25
  by_cases hm : AckPlain.may x0 = true
  · have C3 := fun W h1 h2 hT => encode_any x0 a0 b0 len0 cap0 lem0 cam0 W n0 m0 hm ⟨hft, hfx⟩ h1 h2 hT
    have C4 := fun W h1 h2 => ref_put_ack x0 a0 b0 len0 cap0 lem0 cam0 W n0 m0 hm ⟨hft, hfx⟩ h1 h2
    rw [hm] at C1 C2
    generalize putAck x0 = P at C3 C4
    clear hm n0 m0 hft hfx hfs hfm
    go_enter Tryd.func3, Tryd.ntmps3
    go_wp2_with (first
      | (go_at_call 8; refine (alive_ack _ (hT.below ((Below.refl _ _).alloc (Nat.le_refl _) _))).mono ?_; rintro e wa ⟨rfl, ha'⟩; have ha := Base.next ((Below.refl w.heap.size w).alloc (Nat.le_refl _) _) ha'; have Ba := hB0.below ha' (by simp); obtain ⟨c0, c1, c2, c3, c4⟩ := blk5 Ba; clear hB0 ha')
      | (go_at_call 9; refine (C3 _ (hs.below ha) (ht.below ha) (hT.below ha)).mono ?_; rintro e w1 ⟨a1, d1, rfl, h1, h2, h3, R1, L1⟩; have M1 := Base.next ha L1; clear c0 c1 c2 c3 c4; have B1 := Ba.below L1 Ba.lt; obtain ⟨c0, c1, c2, c3, c4⟩ := blk5 B1)
      | (go_at_call 10; refine (C2 _ (hs.below M1) (ht.below M1)).mono ?_; rintro e w2 ⟨rfl, L2⟩; have M2 := Base.next M1 L2; clear c0 c1 c2 c3 c4; have B2 := B1.below L2 B1.lt; obtain ⟨c0, c1, c2, c3, c4⟩ := blk5 B2))
    obtain ⟨e0, e1, e2, e3, e4⟩ := blk5 B2.drew
    have C1' := C1 w2.drew (hs.below M2).drew (ht.below M2).drew
    clear c0 c1 c2 c3 c4 Ba B1 C1 C2 C3 h1 h2 h3 hT ha M1
    go_region_with (first
      | (go_at_call 11; refine C1'.mono ?_; rintro e w3 ⟨rfl, L3⟩; have N3 := Base.undrew L3; have M3 := Base.next M2 N3; have B3 := B2.below N3 B2.lt; obtain ⟨c0, c1, c2, c3, c4⟩ := blk5 B3; have s0 := str_of w3 a1 _ d1 P rfl ((R1.row.below L2).below N3))
      | (go_at_call 12; refine (C4 w3 (hs.below M3) (ht.below M3)).mono ?_; rintro e w4 ⟨a4, d4, rfl, k1, k2, k3, R4, L4⟩; have M4 := Base.next M3 L4; have s1 := str_of w4 a1 _ d1 P rfl (((R1.row.below L2).below N3).below L4); have s2 := str_of w4 a4 _ d4 P rfl R4.row))
    all_goals go_wp2
    all_goals go_ret
    all_goals exact ⟨rfl, M4⟩
  · have hm' : AckPlain.may x0 = false := by simpa using hm
    have C3 := fun W h1 h2 => encode_bad x0 a0 b0 len0 cap0 lem0 cam0 W n0 m0 hl hl' hfs hfm h1 h2 hm'
    rw [hm'] at C1 C2
    clear hm hm' n0 m0 hft hfx hfs hfm
    go_enter Tryd.func3, Tryd.ntmps3
    go_wp2_with (first
      | (go_at_call 8; refine (alive_ack _ (hT.below ((Below.refl _ _).alloc (Nat.le_refl _) _))).mono ?_; rintro e wa ⟨rfl, ha'⟩; have ha := Base.next ((Below.refl w.heap.size w).alloc (Nat.le_refl _) _) ha'; have Ba := hB0.below ha' (by simp); obtain ⟨c0, c1, c2, c3, c4⟩ := blk5 Ba; clear hB0 ha')
      | (go_at_call 9; refine (C3 _ (hs.below ha) (ht.below ha)).mono ?_; rintro e w1 ⟨rfl, L1⟩; have M1 := Base.next ha L1; clear c0 c1 c2 c3 c4; have B1 := Ba.below L1 Ba.lt; obtain ⟨c0, c1, c2, c3, c4⟩ := blk5 B1)
      | (go_at_call 10; refine (C2 _ (hs.below M1) (ht.below M1)).mono ?_; rintro e w2 ⟨rfl, L2⟩; have M2 := Base.next M1 L2; clear c0 c1 c2 c3 c4; have B2 := B1.below L2 B1.lt; obtain ⟨c0, c1, c2, c3, c4⟩ := blk5 B2)
      | (go_at_call 11; refine (C1 _ (hs.below M2) (ht.below M2)).mono ?_; rintro e w3 ⟨rfl, L3⟩; have M3 := Base.next M2 L3))
    all_goals go_ret
    all_goals exact ⟨by simp, M3⟩

theorem of_laid' {W : World} (h : laidMetH Tryd.prog Rows.ackEncodesRow.laid W) : Tab.Tab W := Tab.of_laid_2 h
theorem door_met (os : Os) (args : Array Value) : laidMetH Tryd.prog Rows.ackEncodesRow.laid ((World.doorLaid Tryd.prog 19 os).forCall (fun _ _ => 0) ⟨#[], args, []⟩).memory :=
  laidMetH_of_parts3 (fuel := 8) (laidMet_of_run' 8 (by kernel_rfl) (by kernel_rfl)) (by kernel_rfl) (by kernel_rfl)
set_option maxRecDepth 100000 in
theorem lifted (os : Os) (started : os.Started) (H : Type) (enc : TypeId × Value → H) :
    ReturnsInHanded {} Tryd.checked os 3 .any (fun w args => (Rows.ackEncodesSpec.pre enc Tryd.prog Tryd.f3 [] false w args ∧ laidMetH Tryd.prog Rows.ackEncodesRow.laid w) ∧ sizedMet enc Tryd.prog Tryd.f3 (OpenSpec.ofChange Rows.ackEncodesSpec) false w args) (Rows.ackEncodesSpec.post enc Tryd.prog Tryd.f3 false true false false) := by
  refine returnsInHanded_of_change_and (C := Tryd.checked) (X := fun w _ => laidMetH Tryd.prog Rows.ackEncodesRow.laid w) (fun _ _ _ hh h => h.of_heap hh) own started (by kernel_rfl) Tryd.func3
    (ChangeSpec.witness_shaped (enc := enc) (C := Tryd.checked) (os := os) (X := fun w _ => laidMetH Tryd.prog Rows.ackEncodesRow.laid w) false (World.doorLaid Tryd.prog 19 os) #[.agg #[.slice none 0 0, .slice none 0 0, .int .u64 0, .int .u64 0, .bool false]] 8 rfl (World.shaped_of_RefB (by kernel_rfl) (by kernel_rfl)) (by kernel_rfl) (by kernel_rfl) (by kernel_rfl) (door_met os _)) ?_
  intro W base args ds gs before hval0 hW _ hsz0 hL _
  have hT := of_laid' hL
  have hval : ∀ (j : Nat) t v, Tryd.f3.params[j]? = some t → args[j]? = some v → Value.okWide Tryd.prog W .any base t v := hval0
  have hW' := hW
  obtain ⟨p, q, hA0, hV, rfl, hfz, hnd⟩ := hW
  have hA : DataW.TrodAll enc Tryd.prog W 0 (fun _ => true) true Tryd.f3.params.toList args.toList ds p := hA0
  rw [Tryd.params3] at hA hval
  obtain ⟨v0, vs0, d0, ds0, p0, q0, hargs, rfl, rfl, h0, r0⟩ := trodAll_cons hA
  obtain ⟨rfl, rfl, rfl⟩ := trodAll_nil r0
  obtain rfl : args = #[v0] := by cases args; simp_all
  obtain ⟨rfl, rfl⟩ := trodVars_none hV
  have k0 := h0
  have lt0 : ∀ x ∈ p0, x.block < W.heap.size := by obtain ⟨m, hm⟩ := k0; exact DataW.trod_lt m _ _ _ hm
  obtain ⟨x0, a0, len0, cap0, b0, lem0, cam0, rfl, n0, m0, f0⟩ := open_ack Tryd.underlying25 (by kernel_rfl) (by kernel_rfl) Tryd.underlying22 Tryd.underlying22 Tryd.underlying23 Tryd.underlying23 Tryd.underlying4 Tryd.underlying55 (by kernel_rfl) rfl rfl (by kernel_rfl) (by kernel_rfl) Tryd.underlying23 Tryd.underlying23 (hval 0 25 v0 rfl rfl) h0
  clear hA0 hval0
  refine (walk x0 a0 len0 cap0 b0 lem0 cam0 W n0 m0 f0 hT).mono fun e W' ⟨he, bel⟩ => ?_
  subst he
  exact ⟨_, rfl, _, _, _, [], _, [], hW', trodAll_mk1 (shut_bool Tryd.underlying4 _), (trodAll_cons_mk (Below.trod laidOut (by kernel_rfl) (of_decide_eq_true (by kernel_rfl)) k0 bel lt0) trodAll_mk0), rfl, bel.frame _, fun h => by cases h⟩

theorem over : Rows.ackEncodesRow.holds Tryd.pinned (OpenSpec.ofChange Rows.ackEncodesSpec) :=
  OpenClaim.holds_of_wide 3 Tryd.f3 rfl rfl rfl rfl rfl rfl rfl ⟨rfl, rfl, rfl, rfl, rfl⟩ rfl rfl rfl rfl rfl (by kernel_rfl) Tryd.func3 (by kernel_rfl)
    (of_decide_eq_true (by kernel_rfl)) (by unfold Func.isWrapper; first | (rw [if_pos (by decide +kernel)]; kernel_rfl) | (rw [if_neg (by decide +kernel)]; exact ⟨rfl, rfl⟩))
    (fun os started H enc _ => lifted os started H enc)

/-- The given statement: the row, its listed variables tied to the program's text. -/
theorem proved : Rows.AckEncodesCardSaid :=
  Claim7.holds_tied_plain_at .later [] [.data, .data] true (true, "3029f8fbe8449d87556f27ae5c2055b3a3d564e05ae1a39ffa06a42cecf980f6") false
    over (fun _ h => by cases h) (by kernel_rfl) (fun _ h => by cases h) ackEncodes_row_tie rfl ⟨rfl, rfl⟩ (by kernel_rfl) rfl
    (fun f fn hf hfn => by
      obtain rfl : f = 3 := Option.some.inj ((show Tryd.prog.funcNamed "splittally/splittallylaw9.AckEncodes" = some 3 by kernel_rfl).symm.trans hf) |>.symm
      obtain rfl : fn = Tryd.f3 := (Option.some.inj (Tryd.func3.symm.trans hfn)).symm
      exact ⟨by kernel_rfl, fun j t ht => by
        rw [Tryd.params3] at ht
        have hm : t ∈ [25] := by simpa using Array.mem_of_getElem? ht
        have hall : ([25].all fun u => !Tryd.prog.wantsStandIn u) = true := by kernel_rfl
        exact (show Tryd.prog.wantsStandIn t = false by simpa using List.all_eq_true.1 hall t hm)⟩)
    (by kernel_rfl)
#print axioms proved
end Go.Proofs.YtangljeceohdpaaDoor.ackEncodes
