/-
  What is read as a number is the bytes of it, and no other ones. No conditions beside the table of math/bits, which the card ties to the program's text.
-/
import Derived.SizedLaws
import Derived.Test.YtendfhmgacfobaaDoorTab
import Derived.Test.YtendfhmgacfobaaDoorCards
import Derived.Test.YtendfhmgacfobaaDoorTie
import Derived.SevenTiedAt
import Derived.Handed
import Derived.Test.YtendfhmgacfobaaDoorRows
import Derived.Test.YtendfhmgacfobaaDoorRow
import Derived.WalkKit
import Derived.ProofKit
import Derived.OpenShut
import Derived.ShutString
import Derived.ChangeOld
import Derived.Below
import Derived.Test.YtendfhmgacfobaaDoorOctAlive
import Derived.BigQuiet
import Derived.Deep.QuietTactic
namespace Go.Proofs.YtendfhmgacfobaaDoor.octetOne
open Go.ChangeShapes Go.WideShapes Go.ChangeAt Go.RowKit
open Go.ChangeMaps (open_string shut_string)
open Go.Proofs.YtendfhmgacfobaaDoor.Base
set_option linter.unusedVariables false

theorem own : ownKnob Tryd.prog.godebug = none := by kernel_rfl
theorem laidOut : laidOutB Tryd.prog = true := by kernel_rfl

open Go.Proofs.YtendfhmgacfobaaDoor.Oct Go.Proofs.YtendfhmgacfobaaDoor.OctPlain Go.Proofs.YtendfhmgacfobaaDoor.Tab
theorem walk (a0 : Option Addr) (len0 cap0 : Nat) (z0 : List Int)  (w : World) (w0 : Ints .u8 w a0 z0) (n0 : z0.length = len0) (m0 : len0 ≤ cap0) (o0 : cap0 ≤ maxLen) (f0 : ∀ x ∈ z0, (Lit.int .u8 x).wf = true) (b0 : cap0 * 1 ≤ 140737488351232) (e0 : a0 = none → len0 = 0 ∧ cap0 = 0) (hT : Tab.Tab w) :
    Calls Tryd.prog 6 #[.slice a0 len0 cap0] w fun e w' => e = .returned (.bool true) ∧ Below w.heap.size w w' := by
  subst n0
  have hb : Bytes z0 := fun x hx => Base.u8_of (f0 x hx)
  have hlen : z0.length ≤ 140737488355328 := by omega
  have hN := num_len z0
  have hE := num_err z0
  have hOne : (num z0).2.2 = 0 → put (num z0).1 = z0.take (num z0).2.1 ∧ 0 ≤ (num z0).1 ∧ (num z0).1 ≤ 4611686018427387903 := fun h => by
    obtain ⟨h1, h2, h3⟩ := num_one (l := z0) (n := (num z0).1) (k := (num z0).2.1) hb (by rw [← h])
    exact ⟨h1, h3⟩
  have hZero : (num z0).2.2 ≠ 0 → (num z0).1 = 0 ∧ (num z0).2.1 = 0 := num_fail z0
  obtain ⟨nv, hnv⟩ : ∃ nv, (num z0).1 = nv := ⟨_, rfl⟩
  obtain ⟨nk, hnk⟩ : ∃ nk, (num z0).2.1 = nk := ⟨_, rfl⟩
  obtain ⟨ne, hne⟩ : ∃ ne, (num z0).2.2 = ne := ⟨_, rfl⟩
  rw [hnv, hnk, hne] at hOne
  rw [hnv, hnk, hne] at hZero
  rw [hnk] at hN
  rw [hne] at hE
  by_cases h0 : ne = 0
  · obtain ⟨o1, o2, o3⟩ := hOne h0
    subst h0
    have hl : (put nv).length = nk := by rw [o1, List.length_take]; omega
    clear hOne hZero hE
    obtain ⟨q, hq⟩ : ∃ q : Int, ((z0.drop nk).length : Int) = q := ⟨_, rfl⟩
    have hqq : IntKind.i64.wrap ((nk : Int) + q) = z0.length := by
      rw [← hq, List.length_drop, IntKind.wrap_i64]
      omega
    have hkc : (nk : Int) ≤ (cap0 : Int) := by omega
    have hbp : decide (nv ≤ 4611686018427387903) = true := decide_eq_true o3
    go_enter Tryd.func6, Tryd.ntmps6
    go_wp2_with (first
      | (go_at_call 15; refine (new_any a0 z0.length cap0 z0 w rfl m0 hlen e0 w0).mono ?_; rintro e w1 ⟨b, rfl, H1, L1⟩; have hT1 := hT.below L1)
      | (go_at_call 8; refine (alive_octet w1 hT1).mono ?_; rintro e w2 ⟨rfl, L2⟩; have H2 := H1.below L2 (fun k hk => hk.2); have LL2 := Base.next L1 L2)
      | (go_at_call 16; refine (num_any H2 hb hlen).mono ?_; rw [hnv, hnk, hne]; rintro e w3 ⟨rfl, H3, F3⟩; have LL3 : Below w.heap.size w w3 := F3.below LL2 LL2.size (by rintro k rfl; exact H2.1.1))
      | (go_at_call 9; refine (put_any nv w3 o2 (by omega) (hT.below LL3)).mono ?_; rw [hl, hbp, o1]; rintro e w4 ⟨b4, cap4, rfl, h1, h2, h3, R4, L4⟩; have H4 := H3.below L4 (fun k hk => by have := L2.size; have := F3.size; omega); have LL4 := Base.next LL3 L4; have hs1 := fun n => str_of (w4.drewN n) b4 nk cap4 (z0.take nk) (by rw [List.length_take]; omega) (R4.row.drewN n); have hs2 := fun n c => str_of (w4.drewN n) a0 nk c (z0.take nk) (by rw [List.length_take]; omega) (by rw [List.map_take]; exact ((w0.below LL4).take nk).drewN n)))
    clear H1 H2 H3 R4 hT hT1 h1 h2 h3 L1 L2 LL2 LL3 L4 F3 f0 hb
    go_quiet ((go_at_call 21; exact Calls.quiet_of_same ((left_any (H4.drewN _)).mono fun e w' ⟨he, hw⟩ => ⟨by rw [he, hq], hw.symm⟩)))
    all_goals go_wp2
    all_goals go_ret
    all_goals exact ⟨by simp, Base.drawn LL4 _⟩
  · obtain ⟨o1, o2⟩ := hZero h0
    subst o1
    subst o2
    clear hOne hZero
    go_enter Tryd.func6, Tryd.ntmps6
    go_wp2_with (first
      | (go_at_call 15; refine (new_any a0 z0.length cap0 z0 w rfl m0 hlen e0 w0).mono ?_; rintro e w1 ⟨b, rfl, H1, L1⟩; have hT1 := hT.below L1)
      | (go_at_call 8; refine (alive_octet w1 hT1).mono ?_; rintro e w2 ⟨rfl, L2⟩; have H2 := H1.below L2 (fun k hk => hk.2); have LL2 := Base.next L1 L2)
      | (go_at_call 16; refine (num_any H2 hb hlen).mono ?_; rw [hnv, hnk, hne]; rintro e w3 ⟨rfl, H3, F3⟩; have LL3 : Below w.heap.size w w3 := F3.below LL2 LL2.size (by rintro k rfl; exact H2.1.1))
      | (go_at_call 21; refine (left_any H3).mono ?_; rintro e w' ⟨rfl, rfl⟩))
    all_goals go_ret
    all_goals exact ⟨by simp, LL3⟩

theorem of_laid' {W : World} (h : laidMetH Tryd.prog Rows.octetOneRow.laid W) : Tab.Tab W := Tab.of_laid_2 h
theorem door_met (os : Os) (args : Array Value) : laidMetH Tryd.prog Rows.octetOneRow.laid ((World.doorLaid Tryd.prog 19 os).forCall (fun _ _ => 0) ⟨#[], args, []⟩).memory :=
  laidMetH_of_parts3 (fuel := 8) (laidMet_of_run' 8 (by kernel_rfl) (by kernel_rfl)) (by kernel_rfl) (by kernel_rfl)
set_option maxRecDepth 100000 in
theorem lifted (os : Os) (started : os.Started) (H : Type) (enc : TypeId × Value → H) :
    ReturnsInHanded {} Tryd.checked os 6 .any (fun w args => (Rows.octetOneSpec.pre enc Tryd.prog Tryd.f6 [] false w args ∧ laidMetH Tryd.prog Rows.octetOneRow.laid w) ∧ sizedMet enc Tryd.prog Tryd.f6 (OpenSpec.ofChange Rows.octetOneSpec) false w args) (Rows.octetOneSpec.post enc Tryd.prog Tryd.f6 false true false false) := by
  refine returnsInHanded_of_change_and (C := Tryd.checked) (X := fun w _ => laidMetH Tryd.prog Rows.octetOneRow.laid w) (fun _ _ _ hh h => h.of_heap hh) own started (by kernel_rfl) Tryd.func6
    (ChangeSpec.witness_shaped (enc := enc) (C := Tryd.checked) (os := os) (X := fun w _ => laidMetH Tryd.prog Rows.octetOneRow.laid w) false (World.doorLaid Tryd.prog 19 os) #[.slice none 0 0] 8 rfl (World.shaped_of_RefB (by kernel_rfl) (by kernel_rfl)) (by kernel_rfl) (by kernel_rfl) (by kernel_rfl) (door_met os _)) ?_
  intro W base args ds gs before hval0 hW _ hsz0 hL _
  have hT := of_laid' hL
  have hval : ∀ (j : Nat) t v, Tryd.f6.params[j]? = some t → args[j]? = some v → Value.okWide Tryd.prog W .any base t v := hval0
  have hW' := hW
  obtain ⟨p, q, hA0, hV, rfl, hfz, hnd⟩ := hW
  have hA : DataW.TrodAll enc Tryd.prog W 0 (fun _ => true) true Tryd.f6.params.toList args.toList ds p := hA0
  rw [Tryd.params6] at hA hval
  obtain ⟨v0, vs0, d0, ds0, p0, q0, hargs, rfl, rfl, h0, r0⟩ := trodAll_cons hA
  obtain ⟨rfl, rfl, rfl⟩ := trodAll_nil r0
  obtain rfl : args = #[v0] := by cases args; simp_all
  obtain ⟨rfl, rfl⟩ := trodVars_none hV
  have hsz : (DataW.weightsEach Tryd.prog [24] [d0]).all (· ≤ reachBytes) = true := hsz0
  obtain ⟨a0, len0, cap0, rfl⟩ := okWide_slice Tryd.underlying24 (hval 0 24 v0 rfl rfl)
  have k0 := h0
  have lt0 : ∀ x ∈ p0, x.block < W.heap.size := by obtain ⟨m, hm⟩ := k0; exact DataW.trod_lt m _ _ _ hm
  obtain ⟨z0, w0, n0, m0, o0, f0, b0, e0⟩ : ∃ zs, Ints .u8 W a0 zs ∧ zs.length = len0 ∧ len0 ≤ cap0 ∧ cap0 ≤ maxLen ∧ (∀ x ∈ zs, (Lit.int .u8 x).wf = true) ∧ cap0 * 1 ≤ 140737488351232 ∧ (a0 = none → len0 = 0 ∧ cap0 = 0) := by
    obtain ⟨fuel, hf⟩ := h0
    rcases open_ints Tryd.underlying24 Tryd.underlying5 (by kernel_rfl) hf with ⟨hcs, hx⟩ | ⟨x, l, c, zs, hcs, _, hl, hm, hz, hx, hcell, hwz⟩
    · simp [Value.cells] at hcs
      obtain ⟨rfl, rfl, rfl⟩ := hcs
      exact ⟨[], Row.nil _ _, rfl, Nat.le_refl _, Nat.zero_le _, (fun _ h => by cases h), by decide, fun _ => ⟨rfl, rfl⟩⟩
    · simp [Value.cells] at hcs
      obtain ⟨rfl, rfl, rfl⟩ := hcs
      exact ⟨zs.take len0, ints_of hl (by simpa using hz) hcell, take_len hl (by simpa using hz), hl, hm, (fun x hx => hwz x (List.mem_of_mem_take hx)), by
          have hd := congrArg Prod.fst hx
          dsimp only at hd
          have := sized_slice hsz (j := 0) (t := 24) (e := 5) (elems := lits .u8 (zs.take len0)) (spare := lits .u8 (zs.drop len0)) rfl (by rw [← hd]; rfl) Tryd.underlying24
          rw [show Tryd.prog.bytesOf 5 = 1 by kernel_rfl] at this
          simp only [lits, List.length_map, List.length_take, List.length_drop, reachBytes] at this
          have hz2 : zs.length = cap0 := (by simpa using hz)
          omega, fun e => by cases e⟩
  clear hA0 hval0
  refine (walk a0 len0 cap0 z0 W w0 n0 m0 o0 f0 b0 e0 hT).mono fun e W' ⟨he, bel⟩ => ?_
  subst he
  exact ⟨_, rfl, _, _, _, [], _, [], hW', trodAll_mk1 (shut_bool Tryd.underlying4 _), (trodAll_cons_mk (Below.trod laidOut (by kernel_rfl) (of_decide_eq_true (by kernel_rfl)) k0 bel lt0) trodAll_mk0), rfl, bel.frame _, fun h => by cases h⟩

theorem over : Rows.octetOneRow.holds Tryd.pinned (OpenSpec.ofChange Rows.octetOneSpec) :=
  OpenClaim.holds_of_wide 6 Tryd.f6 rfl rfl rfl rfl rfl rfl rfl ⟨rfl, rfl, rfl, rfl, rfl⟩ rfl rfl rfl rfl rfl (by kernel_rfl) Tryd.func6 (by kernel_rfl)
    (of_decide_eq_true (by kernel_rfl)) (by unfold Func.isWrapper; first | (rw [if_pos (by decide +kernel)]; kernel_rfl) | (rw [if_neg (by decide +kernel)]; exact ⟨rfl, rfl⟩))
    (fun os started H enc _ => lifted os started H enc)

/-- The given statement: the row, its listed variables tied to the program's text. -/
theorem proved : Rows.OctetOneCardSaid :=
  Claim7.holds_tied_plain_at .later [] [.data, .data] true (true, "e23d3ad83702d537fea1bfb2e30d37bf8c61cd0cadd5d3844564589b1a2d803b") false
    over (fun _ h => by cases h) (by kernel_rfl) (fun _ h => by cases h) octetOne_row_tie rfl ⟨rfl, rfl⟩ (by kernel_rfl) rfl
    (fun f fn hf hfn => by
      obtain rfl : f = 6 := Option.some.inj ((show Tryd.prog.funcNamed "splittally/splittallylaw6.OctetOne" = some 6 by kernel_rfl).symm.trans hf) |>.symm
      obtain rfl : fn = Tryd.f6 := (Option.some.inj (Tryd.func6.symm.trans hfn)).symm
      exact ⟨by kernel_rfl, fun j t ht => by
        rw [Tryd.params6] at ht
        have hm : t ∈ [24] := by simpa using Array.mem_of_getElem? ht
        have hall : ([24].all fun u => !Tryd.prog.wantsStandIn u) = true := by kernel_rfl
        exact (show Tryd.prog.wantsStandIn t = false by simpa using List.all_eq_true.1 hall t hm)⟩)
    (by kernel_rfl)
#print axioms proved
end Go.Proofs.YtendfhmgacfobaaDoor.octetOne
