/-
  Any bytes are decoded as the document defines it: the acknowledgment, or the first error. No conditions beside the table of math/bits, which the card ties to the program's text.
-/
import Derived.SizedLaws
import Derived.Test.YtangljeceohdpaaDoorTab
import Derived.Test.YtangljeceohdpaaDoorCards
import Derived.Test.YtangljeceohdpaaDoorTie
import Derived.SevenTiedAt
import Derived.Handed
import Derived.Test.YtangljeceohdpaaDoorRows
import Derived.Test.YtangljeceohdpaaDoorRow
import Derived.WalkKit
import Derived.ProofKit
import Derived.OpenShut
import Derived.ShutString
import Derived.ChangeOld
import Derived.Below
import Derived.Test.YtangljeceohdpaaDoorAckAlive
import Derived.Test.YtangljeceohdpaaDoorAckLaw0
namespace Go.Proofs.YtangljeceohdpaaDoor.ackDecodes
open Go.ChangeShapes Go.WideShapes Go.ChangeAt Go.RowKit
open Go.ChangeMaps (open_string shut_string)
open Go.Proofs.YtangljeceohdpaaDoor.Base
set_option linter.unusedVariables false

theorem own : ownKnob Tryd.prog.godebug = none := by kernel_rfl
theorem laidOut : laidOutB Tryd.prog = true := by kernel_rfl

open Go.Proofs.YtangljeceohdpaaDoor.Ack Go.Proofs.YtangljeceohdpaaDoor.Oct Go.Proofs.YtangljeceohdpaaDoor.OctPlain Go.Proofs.YtangljeceohdpaaDoor.Tab
open Go.Proofs.YtangljeceohdpaaDoor.AckPlain (getAck)
theorem walk (a0 : Option Addr) (len0 cap0 : Nat) (z0 : List Int)  (w : World) (w0 : Ints .u8 w a0 z0) (n0 : z0.length = len0) (m0 : len0 ≤ cap0) (o0 : cap0 ≤ maxLen) (f0 : ∀ x ∈ z0, (Lit.int .u8 x).wf = true) (b0 : cap0 * 1 ≤ 140737488351232) (e0 : a0 = none → len0 = 0 ∧ cap0 = 0) (hT : Tab.Tab w) :
    Calls Tryd.prog 4 #[.slice a0 len0 cap0] w fun e w' => e = .returned (.bool true) ∧ Below w.heap.size w w' := by
  subst n0
  have hb : Bytes z0 := fun x hx => Base.u8_of (f0 x hx)
  have hlen : z0.length ≤ 140737488355328 := by omega
  obtain ⟨D, x, hg⟩ : ∃ D x, getAck z0 = (D, x) := ⟨_, _, rfl⟩
  have hlim := ack_lim hb
  rw [hg] at hlim
  dsimp only at hlim
  have C1 := fun W hz => decode_any a0 z0.length cap0 z0 W rfl m0 hlen e0 hb hz
  have C2 := fun W hz => ref_get_ack a0 z0.length cap0 z0 W rfl m0 hlen hb hz
  unfold AckPost at C1 C2
  rw [hg] at C1 C2
  dsimp only at C1 C2
  have C3 := fun a1 b1 a2 b2 n1 c1 m1 d1 n2 c2 m2 d2 W => ref_same_ack D a1 b1 a2 b2 n1 c1 m1 d1 n2 c2 m2 d2 W
  clear hg
  go_enter Tryd.func4, Tryd.ntmps4
  go_wp2_with (first
    | (go_at_call 8; refine (alive_ack w hT).mono ?_; rintro e wa ⟨rfl, ha⟩)
    | (go_at_call 13; refine (C1 _ (w0.below ha)).mono ?_; rintro e w1 ⟨a1, n1, c1, b1, m1, d1, rfl, ⟨h1, h2, h3, h4, R1⟩, ⟨j1, j2, j3, j4, S1⟩, L1⟩; have M1 := Base.next ha L1)
    | (go_at_call 14; refine (C2 _ (Row.alloc (w0.below M1) _)).mono ?_; rintro e w2 ⟨a2, n2, c2, b2, m2, d2, rfl, ⟨k1, k2, k3, k4, R2⟩, ⟨l1, l2, l3, l4, S2⟩, L2⟩; have N2 := Base.next ((Below.refl w1.heap.size w1).alloc (Nat.le_refl _) _) L2; have M2 := Base.next M1 N2; have hlt := Base.kept_lt L2; have B2 := (Blk.new w1 _ _).below L2 (by simp); obtain ⟨p0, p1, p2, p3, p4⟩ := blk5 B2; clear B2)
    | (go_at_call 15; refine (C3 a1 b1 a2 b2 n1 c1 m1 d1 n2 c2 m2 d2 _ h1 k1 j1 l1 hlim.1 hlim.2 (Row.alloc (R1.row.below N2) _) (Row.alloc (S1.row.below N2) _) (Row.alloc R2.row _) (Row.alloc S2.row _)).mono ?_; rintro e w3 ⟨rfl, L3⟩))
  all_goals go_ret
  all_goals exact ⟨by simp, Base.next M2 (Base.next ((Below.refl _ _).alloc (Nat.le_refl _) _) L3)⟩

theorem of_laid' {W : World} (h : laidMetH Tryd.prog Rows.ackDecodesRow.laid W) : Tab.Tab W := Tab.of_laid_2 h
theorem door_met (os : Os) (args : Array Value) : laidMetH Tryd.prog Rows.ackDecodesRow.laid ((World.doorLaid Tryd.prog 19 os).forCall (fun _ _ => 0) ⟨#[], args, []⟩).memory :=
  laidMetH_of_parts3 (fuel := 8) (laidMet_of_run' 8 (by kernel_rfl) (by kernel_rfl)) (by kernel_rfl) (by kernel_rfl)
set_option maxRecDepth 100000 in
theorem lifted (os : Os) (started : os.Started) (H : Type) (enc : TypeId × Value → H) :
    ReturnsInHanded {} Tryd.checked os 4 .any (fun w args => (Rows.ackDecodesSpec.pre enc Tryd.prog Tryd.f4 [] false w args ∧ laidMetH Tryd.prog Rows.ackDecodesRow.laid w) ∧ sizedMet enc Tryd.prog Tryd.f4 (OpenSpec.ofChange Rows.ackDecodesSpec) false w args) (Rows.ackDecodesSpec.post enc Tryd.prog Tryd.f4 false true false false) := by
  refine returnsInHanded_of_change_and (C := Tryd.checked) (X := fun w _ => laidMetH Tryd.prog Rows.ackDecodesRow.laid w) (fun _ _ _ hh h => h.of_heap hh) own started (by kernel_rfl) Tryd.func4
    (ChangeSpec.witness_shaped (enc := enc) (C := Tryd.checked) (os := os) (X := fun w _ => laidMetH Tryd.prog Rows.ackDecodesRow.laid w) false (World.doorLaid Tryd.prog 19 os) #[.slice none 0 0] 8 rfl (World.shaped_of_RefB (by kernel_rfl) (by kernel_rfl)) (by kernel_rfl) (by kernel_rfl) (by kernel_rfl) (door_met os _)) ?_
  intro W base args ds gs before hval0 hW _ hsz0 hL _
  have hT := of_laid' hL
  have hval : ∀ (j : Nat) t v, Tryd.f4.params[j]? = some t → args[j]? = some v → Value.okWide Tryd.prog W .any base t v := hval0
  have hW' := hW
  obtain ⟨p, q, hA0, hV, rfl, hfz, hnd⟩ := hW
  have hA : DataW.TrodAll enc Tryd.prog W 0 (fun _ => true) true Tryd.f4.params.toList args.toList ds p := hA0
  rw [Tryd.params4] at hA hval
  obtain ⟨v0, vs0, d0, ds0, p0, q0, hargs, rfl, rfl, h0, r0⟩ := trodAll_cons hA
  obtain ⟨rfl, rfl, rfl⟩ := trodAll_nil r0
  obtain rfl : args = #[v0] := by cases args; simp_all
  obtain ⟨rfl, rfl⟩ := trodVars_none hV
  have hsz : (DataW.weightsEach Tryd.prog [27] [d0]).all (· ≤ reachBytes) = true := hsz0
  obtain ⟨a0, len0, cap0, rfl⟩ := okWide_slice Tryd.underlying27 (hval 0 27 v0 rfl rfl)
  have k0 := h0
  have lt0 : ∀ x ∈ p0, x.block < W.heap.size := by obtain ⟨m, hm⟩ := k0; exact DataW.trod_lt m _ _ _ hm
  obtain ⟨z0, w0, n0, m0, o0, f0, b0, e0⟩ : ∃ zs, Ints .u8 W a0 zs ∧ zs.length = len0 ∧ len0 ≤ cap0 ∧ cap0 ≤ maxLen ∧ (∀ x ∈ zs, (Lit.int .u8 x).wf = true) ∧ cap0 * 1 ≤ 140737488351232 ∧ (a0 = none → len0 = 0 ∧ cap0 = 0) := by
    obtain ⟨fuel, hf⟩ := h0
    rcases open_ints Tryd.underlying27 Tryd.underlying5 (by kernel_rfl) hf with ⟨hcs, hx⟩ | ⟨x, l, c, zs, hcs, _, hl, hm, hz, hx, hcell, hwz⟩
    · simp [Value.cells] at hcs
      obtain ⟨rfl, rfl, rfl⟩ := hcs
      exact ⟨[], Row.nil _ _, rfl, Nat.le_refl _, Nat.zero_le _, (fun _ h => by cases h), by decide, fun _ => ⟨rfl, rfl⟩⟩
    · simp [Value.cells] at hcs
      obtain ⟨rfl, rfl, rfl⟩ := hcs
      exact ⟨zs.take len0, ints_of hl (by simpa using hz) hcell, take_len hl (by simpa using hz), hl, hm, (fun x hx => hwz x (List.mem_of_mem_take hx)), by
          have hd := congrArg Prod.fst hx
          dsimp only at hd
          have := sized_slice hsz (j := 0) (t := 27) (e := 5) (elems := lits .u8 (zs.take len0)) (spare := lits .u8 (zs.drop len0)) rfl (by rw [← hd]; rfl) Tryd.underlying27
          rw [show Tryd.prog.bytesOf 5 = 1 by kernel_rfl] at this
          simp only [lits, List.length_map, List.length_take, List.length_drop, reachBytes] at this
          have hz2 : zs.length = cap0 := (by simpa using hz)
          omega, fun e => by cases e⟩
  clear hA0 hval0
  refine (walk a0 len0 cap0 z0 W w0 n0 m0 o0 f0 b0 e0 hT).mono fun e W' ⟨he, bel⟩ => ?_
  subst he
  exact ⟨_, rfl, _, _, _, [], _, [], hW', trodAll_mk1 (shut_bool Tryd.underlying4 _), (trodAll_cons_mk (Below.trod laidOut (by kernel_rfl) (of_decide_eq_true (by kernel_rfl)) k0 bel lt0) trodAll_mk0), rfl, bel.frame _, fun h => by cases h⟩

theorem over : Rows.ackDecodesRow.holds Tryd.pinned (OpenSpec.ofChange Rows.ackDecodesSpec) :=
  OpenClaim.holds_of_wide 4 Tryd.f4 rfl rfl rfl rfl rfl rfl rfl ⟨rfl, rfl, rfl, rfl, rfl⟩ rfl rfl rfl rfl rfl (by kernel_rfl) Tryd.func4 (by kernel_rfl)
    (of_decide_eq_true (by kernel_rfl)) (by unfold Func.isWrapper; first | (rw [if_pos (by decide +kernel)]; kernel_rfl) | (rw [if_neg (by decide +kernel)]; exact ⟨rfl, rfl⟩))
    (fun os started H enc _ => lifted os started H enc)

/-- The given statement: the row, its listed variables tied to the program's text. -/
theorem proved : Rows.AckDecodesCardSaid :=
  Claim7.holds_tied_plain_at .later [] [.data, .data] true (true, "3029f8fbe8449d87556f27ae5c2055b3a3d564e05ae1a39ffa06a42cecf980f6") false
    over (fun _ h => by cases h) (by kernel_rfl) (fun _ h => by cases h) ackDecodes_row_tie rfl ⟨rfl, rfl⟩ (by kernel_rfl) rfl
    (fun f fn hf hfn => by
      obtain rfl : f = 4 := Option.some.inj ((show Tryd.prog.funcNamed "splittally/splittallylaw9.AckDecodes" = some 4 by kernel_rfl).symm.trans hf) |>.symm
      obtain rfl : fn = Tryd.f4 := (Option.some.inj (Tryd.func4.symm.trans hfn)).symm
      exact ⟨by kernel_rfl, fun j t ht => by
        rw [Tryd.params4] at ht
        have hm : t ∈ [27] := by simpa using Array.mem_of_getElem? ht
        have hall : ([27].all fun u => !Tryd.prog.wantsStandIn u) = true := by kernel_rfl
        exact (show Tryd.prog.wantsStandIn t = false by simpa using List.all_eq_true.1 hall t hm)⟩)
    (by kernel_rfl)
#print axioms proved
end Go.Proofs.YtangljeceohdpaaDoor.ackDecodes
