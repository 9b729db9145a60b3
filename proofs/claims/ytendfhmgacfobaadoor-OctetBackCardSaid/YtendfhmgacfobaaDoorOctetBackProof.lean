/-
  Any number that may be is read as it was, whatever comes behind it, and each beginning of its bytes is too short. No conditions beside the table of math/bits, which the card ties to the program's text.
-/
import Derived.SizedLaws
import Derived.Test.YtendfhmgacfobaaDoorTab
import Derived.Test.YtendfhmgacfobaaDoorCards
import Derived.Test.YtendfhmgacfobaaDoorTie
import Derived.SevenTiedAt
import Derived.Handed
import Derived.Test.YtendfhmgacfobaaDoorRows
import Derived.Test.YtendfhmgacfobaaDoorRow
import Derived.WalkKit
import Derived.ProofKit
import Derived.OpenShut
import Derived.ShutString
import Derived.ChangeOld
import Derived.Below
import Derived.Test.YtendfhmgacfobaaDoorOctAlive
namespace Go.Proofs.YtendfhmgacfobaaDoor.octetBack
open Go.ChangeShapes Go.WideShapes Go.ChangeAt Go.RowKit
open Go.ChangeMaps (open_string shut_string)
open Go.Proofs.YtendfhmgacfobaaDoor.Base
set_option linter.unusedVariables false

theorem own : ownKnob Tryd.prog.godebug = none := by kernel_rfl
theorem laidOut : laidOutB Tryd.prog = true := by kernel_rfl

open Go.Proofs.YtendfhmgacfobaaDoor.Oct Go.Proofs.YtendfhmgacfobaaDoor.OctPlain Go.Proofs.YtendfhmgacfobaaDoor.Tab
theorem walk (a0 : Int) (a1 : Int) (a2 : Option Addr) (len2 cap2 : Nat) (z2 : List Int)  (w : World) (w0 : (Lit.int .u64 a0).wf = true) (w1 : (Lit.int .u8 a1).wf = true) (w2 : Ints .u8 w a2 z2) (n2 : z2.length = len2) (m2 : len2 ≤ cap2) (o2 : cap2 ≤ maxLen) (f2 : ∀ x ∈ z2, (Lit.int .u8 x).wf = true) (b2 : cap2 * 1 ≤ 140737488351232) (e2 : a2 = none → len2 = 0 ∧ cap2 = 0) (hT : Tab.Tab w) :
    Calls Tryd.prog 5 #[.int .u64 a0, .int .u8 a1, .slice a2 len2 cap2] w fun e w' => e = .returned (.bool true) ∧ Below w.heap.size w w' := by
  obtain ⟨p0, p1⟩ := Base.u64_of w0
  obtain ⟨q0, q1⟩ := Base.u8_of w1
  obtain ⟨i0, hi0, hz0, hz1, hz2⟩ := info_parts info
  have A := and_62 p0 p1
  subst n2
  have hb : Bytes z2 := fun x hx => Base.u8_of (f2 x hx)
  clear w0 w1 f2
  have x0 : 0 ≤ a0 % 4611686018427387904 := by omega
  have x1 : a0 % 4611686018427387904 ≤ 4611686018427387903 := by omega
  generalize a0 % 4611686018427387904 = x at *
  have hp := put_pos x1
  have hpb := put_bytes x
  have hl8 : (put x).length ≤ 8 := by have := put_len x; have := size_bd x; omega
  have hN := num_put z2 x0 x1
  have hcut : ∀ m, m < (put x).length → num ((put x).take m) = (0, 0, 2) := fun m hm => num_cut x0 x1 hm
  have hdx : decide (x ≤ 4611686018427387903) = true := decide_eq_true x1
  have c1 := fun W => put_any x W x0 (by omega)
  rw [hdx] at c1
  have hdrop : (put x ++ z2).drop (put x).length = z2 := by simp
  generalize put x = P at *
  generalize hk : P.length = k at *
  obtain ⟨m, hm⟩ : ∃ m : Nat, a1 % (k : Int) = m := ⟨(a1 % (k : Int)).toNat, by have := Int.emod_nonneg a1 (show (k : Int) ≠ 0 by omega); omega⟩
  have hmk : m < k := by have := Int.emod_lt_of_pos a1 (show (0 : Int) < k by omega); omega
  have hm2 : a1.tmod (k : Int) = m := by rw [Int.tmod_eq_emod_of_nonneg q0, hm]
  go_enter Tryd.func5, Tryd.ntmps5
  go_wp2_with (first
    | (go_at_call 9; refine (c1 w hT).mono ?_; rintro e w3 ⟨b3, cap3, rfl, h1, h2, h3, R3, L3⟩)
    | (at_builtin; refine wpl_append_row _ rfl _ (.tmp 22) _ rfl w3.heap.size 5 i0 _ 1 1 Tryd.underlying24 hi0 hz0 hz1 hz2 rfl (by omega) (.slice none 0 0) 0 [] rfl (World.ownsRow_nil _ _ _ _) b3 k cap3 (P.map (Value.int .u8)) rfl (by simp [hk]) R3.row (ints_oneCell _ _) (by unfold maxLen; omega) (by omega) (Nat.le_refl _) ?_; intro v4 w4 hown4 hg4 hat4; have L4 : Below w3.heap.size w3 w4 := (Below.refl _ _).grown hg4 (Nat.le_refl _) (by simp [Value.ownBlock]); have LL4 := Base.next L3 L4)
    | (at_builtin; refine wpl_append_row _ rfl (.tmp 23) (.tmp 24) _ rfl w3.heap.size 5 i0 _ 1 1 Tryd.underlying24 hi0 hz0 hz1 hz2 rfl (by omega) v4 (0 + k) ([] ++ P.map (Value.int .u8)) rfl hown4 a2 z2.length cap2 (z2.map (Value.int .u8)) rfl (by simp) (w2.below LL4) (ints_oneCell _ _) (by unfold maxLen; omega) (by omega) L4.size ?_; intro v5 w5 hown5 hg5 hat5; have L5 : Below w3.heap.size w3 w5 := L4.grown hg5 L4.size (own_new (B := w3.heap.size) hat4 (Nat.le_refl _) (by simp [Value.ownBlock])); have LL5 := Base.next L3 L5; obtain ⟨b5, cap5, rfl, g1, g2, g3, R5⟩ := rowIn_of_own Nat.one_pos hown5)
    | ((with_reducible refine (new_any b5 (k + z2.length) cap5 (P ++ z2) w5 ?_ ?_ ?_ ?_ ?_).mono ?_); (rw [List.length_append, hk]); omega; omega; (intro e; have := g3 e; omega); exact Ints.of R5.row (by simp); rintro e w6 ⟨b6, rfl, H6, L6⟩; have LL6 := Base.next LL5 L6)
    | (go_at_call 8; refine (alive_octet w6 (hT.below LL6)).mono ?_; rintro e w7 ⟨rfl, L7⟩; have H7 := H6.below L7 (fun i hi => hi.2); have LL7 := Base.next LL6 L7)
    | ((with_reducible refine (num_any H7 (hpb.append hb) ?_).mono ?_); (rw [List.length_append, hk]; omega); rw [hN]; rintro e w8 ⟨rfl, H8, F8⟩; have LL8 : Below w.heap.size w w8 := F8.below LL7 LL7.size (by rintro i rfl; have := H6.1.1; have := LL5.size; omega); have LL8' : Below w3.heap.size w3 w8 := F8.below (Base.next (Base.next L5 L6) L7) (Base.next (Base.next L5 L6) L7).size (by rintro i rfl; have := H6.1.1; have := L5.size; omega))
    | ((with_reducible refine (new_any b3 m cap3 (P.take m) w8 ?_ ?_ ?_ ?_ ?_).mono ?_); (rw [List.length_take, hk]; omega); omega; omega; (intro e; have := h3 e; omega); (exact (show Row w8 b3 ((P.take m).map (Value.int .u8)) by rw [List.map_take]; exact (R3.row.below LL8').take m)); rintro e w9 ⟨b9, rfl, H9, L9⟩; have LL9 := Base.next LL8 L9; have K9 := H8.below L9 (fun i hi => by have := L7.size; have := F8.size; omega))
    | ((with_reducible refine (num_any H9 (hpb.take m) ?_).mono ?_); (rw [List.length_take]; omega); rw [hcut m hmk]; rintro e w10 ⟨rfl, H10, F10⟩; have LL10 : Below w.heap.size w w10 := F10.below LL9 LL9.size (by rintro i rfl; have := H9.1.1; have := LL8.size; omega); have K10 := K9.kept F10 (fun i hi e => by subst e; have := H9.1.1; have := L7.size; have := F8.size; omega))
    | (go_at_call 21; refine (left_any K10).mono ?_; rw [hdrop]; rintro e w' ⟨rfl, rfl⟩))
  all_goals go_ret
  all_goals exact ⟨by simp, LL10⟩

theorem of_laid' {W : World} (h : laidMetH Tryd.prog Rows.octetBackRow.laid W) : Tab.Tab W := Tab.of_laid_2 h
theorem door_met (os : Os) (args : Array Value) : laidMetH Tryd.prog Rows.octetBackRow.laid ((World.doorLaid Tryd.prog 19 os).forCall (fun _ _ => 0) ⟨#[], args, []⟩).memory :=
  laidMetH_of_parts3 (fuel := 8) (laidMet_of_run' 8 (by kernel_rfl) (by kernel_rfl)) (by kernel_rfl) (by kernel_rfl)
set_option maxRecDepth 100000 in
theorem lifted (os : Os) (started : os.Started) (H : Type) (enc : TypeId × Value → H) :
    ReturnsInHanded {} Tryd.checked os 5 .any (fun w args => (Rows.octetBackSpec.pre enc Tryd.prog Tryd.f5 [] false w args ∧ laidMetH Tryd.prog Rows.octetBackRow.laid w) ∧ sizedMet enc Tryd.prog Tryd.f5 (OpenSpec.ofChange Rows.octetBackSpec) false w args) (Rows.octetBackSpec.post enc Tryd.prog Tryd.f5 false true false false) := by
  refine returnsInHanded_of_change_and (C := Tryd.checked) (X := fun w _ => laidMetH Tryd.prog Rows.octetBackRow.laid w) (fun _ _ _ hh h => h.of_heap hh) own started (by kernel_rfl) Tryd.func5
    (ChangeSpec.witness_shaped (enc := enc) (C := Tryd.checked) (os := os) (X := fun w _ => laidMetH Tryd.prog Rows.octetBackRow.laid w) false (World.doorLaid Tryd.prog 19 os) #[.int .u64 0, .int .u8 0, .slice none 0 0] 8 rfl (World.shaped_of_RefB (by kernel_rfl) (by kernel_rfl)) (by kernel_rfl) (by kernel_rfl) (by kernel_rfl) (door_met os _)) ?_
  intro W base args ds gs before hval0 hW _ hsz0 hL _
  have hT := of_laid' hL
  have hval : ∀ (j : Nat) t v, Tryd.f5.params[j]? = some t → args[j]? = some v → Value.okWide Tryd.prog W .any base t v := hval0
  have hW' := hW
  obtain ⟨p, q, hA0, hV, rfl, hfz, hnd⟩ := hW
  have hA : DataW.TrodAll enc Tryd.prog W 0 (fun _ => true) true Tryd.f5.params.toList args.toList ds p := hA0
  rw [Tryd.params5] at hA hval
  obtain ⟨v0, vs0, d0, ds0, p0, q0, hargs, rfl, rfl, h0, r0⟩ := trodAll_cons hA
  obtain ⟨v1, vs1, d1, ds1, p1, q1, rfl, rfl, rfl, h1, r1⟩ := trodAll_cons r0
  obtain ⟨v2, vs2, d2, ds2, p2, q2, rfl, rfl, rfl, h2, r2⟩ := trodAll_cons r1
  obtain ⟨rfl, rfl, rfl⟩ := trodAll_nil r2
  obtain rfl : args = #[v0, v1, v2] := by cases args; simp_all
  obtain ⟨rfl, rfl⟩ := trodVars_none hV
  have hsz : (DataW.weightsEach Tryd.prog [22, 5, 24] [d0, d1, d2]).all (· ≤ reachBytes) = true := hsz0
  obtain ⟨a0, rfl, rfl, rfl, w0⟩ := open_int Tryd.underlying22 (hval 0 22 v0 rfl rfl) h0
  obtain ⟨a1, rfl, rfl, rfl, w1⟩ := open_int Tryd.underlying5 (hval 1 5 v1 rfl rfl) h1
  obtain ⟨a2, len2, cap2, rfl⟩ := okWide_slice Tryd.underlying24 (hval 2 24 v2 rfl rfl)
  have k2 := h2
  have lt2 : ∀ x ∈ p2, x.block < W.heap.size := by obtain ⟨m, hm⟩ := k2; exact DataW.trod_lt m _ _ _ hm
  obtain ⟨z2, w2, n2, m2, o2, f2, b2, e2⟩ : ∃ zs, Ints .u8 W a2 zs ∧ zs.length = len2 ∧ len2 ≤ cap2 ∧ cap2 ≤ maxLen ∧ (∀ x ∈ zs, (Lit.int .u8 x).wf = true) ∧ cap2 * 1 ≤ 140737488351232 ∧ (a2 = none → len2 = 0 ∧ cap2 = 0) := by
    obtain ⟨fuel, hf⟩ := h2
    rcases open_ints Tryd.underlying24 Tryd.underlying5 (by kernel_rfl) hf with ⟨hcs, hx⟩ | ⟨x, l, c, zs, hcs, _, hl, hm, hz, hx, hcell, hwz⟩
    · simp [Value.cells] at hcs
      obtain ⟨rfl, rfl, rfl⟩ := hcs
      exact ⟨[], Row.nil _ _, rfl, Nat.le_refl _, Nat.zero_le _, (fun _ h => by cases h), by decide, fun _ => ⟨rfl, rfl⟩⟩
    · simp [Value.cells] at hcs
      obtain ⟨rfl, rfl, rfl⟩ := hcs
      exact ⟨zs.take len2, ints_of hl (by simpa using hz) hcell, take_len hl (by simpa using hz), hl, hm, (fun x hx => hwz x (List.mem_of_mem_take hx)), by
          have hd := congrArg Prod.fst hx
          dsimp only at hd
          have := sized_slice hsz (j := 2) (t := 24) (e := 5) (elems := lits .u8 (zs.take len2)) (spare := lits .u8 (zs.drop len2)) rfl (by rw [← hd]; rfl) Tryd.underlying24
          rw [show Tryd.prog.bytesOf 5 = 1 by kernel_rfl] at this
          simp only [lits, List.length_map, List.length_take, List.length_drop, reachBytes] at this
          have hz2 : zs.length = cap2 := (by simpa using hz)
          omega, fun e => by cases e⟩
  clear hA0 hval0
  refine (walk a0 a1 a2 len2 cap2 z2 W w0 w1 w2 n2 m2 o2 f2 b2 e2 hT).mono fun e W' ⟨he, bel⟩ => ?_
  subst he
  exact ⟨_, rfl, _, _, _, [], _, [], hW', trodAll_mk1 (shut_bool Tryd.underlying4 _), (trodAll_cons_mk (shut_int Tryd.underlying22 w0) (trodAll_cons_mk (shut_int Tryd.underlying5 w1) (trodAll_cons_mk (Below.trod laidOut (by kernel_rfl) (of_decide_eq_true (by kernel_rfl)) k2 bel lt2) trodAll_mk0))), rfl, bel.frame _, fun h => by cases h⟩

theorem over : Rows.octetBackRow.holds Tryd.pinned (OpenSpec.ofChange Rows.octetBackSpec) :=
  OpenClaim.holds_of_wide 5 Tryd.f5 rfl rfl rfl rfl rfl rfl rfl ⟨rfl, rfl, rfl, rfl, rfl⟩ rfl rfl rfl rfl rfl (by kernel_rfl) Tryd.func5 (by kernel_rfl)
    (of_decide_eq_true (by kernel_rfl)) (by unfold Func.isWrapper; first | (rw [if_pos (by decide +kernel)]; kernel_rfl) | (rw [if_neg (by decide +kernel)]; exact ⟨rfl, rfl⟩))
    (fun os started H enc _ => lifted os started H enc)

/-- The given statement: the row, its listed variables tied to the program's text. -/
theorem proved : Rows.OctetBackCardSaid :=
  Claim7.holds_tied_plain_at .later [] [.data, .data] true (true, "e23d3ad83702d537fea1bfb2e30d37bf8c61cd0cadd5d3844564589b1a2d803b") false
    over (fun _ h => by cases h) (by kernel_rfl) (fun _ h => by cases h) octetBack_row_tie rfl ⟨rfl, rfl⟩ (by kernel_rfl) rfl
    (fun f fn hf hfn => by
      obtain rfl : f = 5 := Option.some.inj ((show Tryd.prog.funcNamed "splittally/splittallylaw6.OctetBack" = some 5 by kernel_rfl).symm.trans hf) |>.symm
      obtain rfl : fn = Tryd.f5 := (Option.some.inj (Tryd.func5.symm.trans hfn)).symm
      exact ⟨by kernel_rfl, fun j t ht => by
        rw [Tryd.params5] at ht
        have hm : t ∈ [22, 5, 24] := by simpa using Array.mem_of_getElem? ht
        have hall : ([22, 5, 24].all fun u => !Tryd.prog.wantsStandIn u) = true := by kernel_rfl
        exact (show Tryd.prog.wantsStandIn t = false by simpa using List.all_eq_true.1 hall t hm)⟩)
    (by kernel_rfl)
#print axioms proved
end Go.Proofs.YtendfhmgacfobaaDoor.octetBack
