/-
  A packet that may be is decoded as it was encoded, a beginning of its bytes is none, and what has a byte more behind it neither. No conditions beside the table of math/bits, which the card ties to the program's text.
-/
import Derived.Test.YtbdafmomjboaaaaDoorTab
import Derived.Test.YtbdafmomjboaaaaDoorCards
import Derived.Test.YtbdafmomjboaaaaDoorTie
import Derived.SevenTiedAt
import Derived.Handed
import Derived.Test.YtbdafmomjboaaaaDoorRows
import Derived.Test.YtbdafmomjboaaaaDoorRow
import Derived.WalkKit
import Derived.ProofKit
import Derived.OpenShut
import Derived.ShutString
import Derived.ChangeOld
import Derived.Below
import Derived.Test.YtbdafmomjboaaaaDoorHead6
namespace Go.Proofs.YtbdafmomjboaaaaDoor.headBack
open Go.ChangeShapes Go.WideShapes Go.ChangeAt Go.RowKit
open Go.ChangeMaps (open_string shut_string)
open Go.Proofs.YtbdafmomjboaaaaDoor.Base
set_option linter.unusedVariables false

theorem own : ownKnob Tryd.prog.godebug = none := by kernel_rfl
theorem laidOut : laidOutB Tryd.prog = true := by kernel_rfl

open Go.Proofs.YtbdafmomjboaaaaDoor.Head Go.Proofs.YtbdafmomjboaaaaDoor.Oct Go.Proofs.YtbdafmomjboaaaaDoor.OctPlain Go.Proofs.YtbdafmomjboaaaaDoor.HeadPlain Go.Proofs.YtbdafmomjboaaaaDoor.Tab
theorem back_facts {d : D} (hm : may d = true) (hf : Fit d) {y : Int} (hy : 0 ≤ y ∧ y ≤ 255) : ∃ (P : List Int) (k : Nat), putData d = P ∧ P.length = k ∧ 1 ≤ k ∧ k ≤ 2000 ∧ Bytes P ∧ getData P = (d, 0) ∧ (∀ t, t < k → getData (P.take t) = (zero, 2)) ∧ getData (P ++ [y]) = (zero, 3) := by
  obtain ⟨m1, m2, m3, m4, m5, m6, m7⟩ := may_iff.1 hm
  refine ⟨putData d, (putData d).length, rfl, rfl, by unfold putData; simp, ?_, put_data_bytes hm hf.2.2.2.2.2, ?_, fun t ht => get_cut hm hf ht, ?_⟩
  · have := put_data_len d
    omega
  · have := get_put hm hf []
    simpa using this
  · have := get_put hm hf [y]
    simpa using this
theorem mod_facts {a : Int} {k : Nat} (h0 : 0 ≤ a) (hk : 1 ≤ k) : ∃ t : Nat, a.tmod (k : Int) = t ∧ t < k := by
  have h1 := Int.emod_nonneg a (show (k : Int) ≠ 0 by omega)
  have h2 := Int.emod_lt_of_pos a (show (0 : Int) < k by omega)
  exact ⟨(a % (k : Int)).toNat, by rw [Int.tmod_eq_emod_of_nonneg h0]; omega, by omega⟩
theorem walk (a0 : Int) (a1 : Int) (a2 : Int) (a3 : Int) (a4 : Int) (a5 : Int) (a6 : Int)  (w : World) (w0 : (Lit.int .u64 a0).wf = true) (w1 : (Lit.int .u64 a1).wf = true) (w2 : (Lit.int .u64 a2).wf = true) (w3 : (Lit.int .u16 a3).wf = true) (w4 : (Lit.int .u16 a4).wf = true) (w5 : (Lit.int .i64 a5).wf = true) (w6 : (Lit.int .u8 a6).wf = true) (hT : Tab.Tab w) :
    Calls Tryd.prog 5 #[.int .u64 a0, .int .u64 a1, .int .u64 a2, .int .u16 a3, .int .u16 a4, .int .i64 a5, .int .u8 a6] w fun e w' => e = .returned (.bool true) ∧ Below w.heap.size w w' := by
  obtain ⟨i0, hi0, hz0, hz1, hz2⟩ := info_parts Oct.info
  have u0 := Base.u64_of w0
  have u1 := Base.u64_of w1
  have u2 := Base.u64_of w2
  have u3 := Base.u16_of w3
  have u4 := Base.u16_of w4
  have u5 := Base.i64_of w5
  have u6 := Base.u8_of w6
  have CD := data_any a0 a1 a2 a3 a5 w u0.1 u0.2 u1.1 u1.2 u2.1 u2.2 u3.1 u3.2 u5.1 u5.2
  obtain ⟨q40, q41⟩ := u4
  obtain ⟨q60, q61⟩ := u6
  clear u0 u1 u2 u3 u5 w0 w1 w2 w3 w4 w5 w6
  go_enter Tryd.func5, Tryd.ntmps5
  go_wp2_with (first
    | (go_at_call 17; refine CD.mono ?_; rintro e v1 ⟨d, b, m, rfl, hm, hf, hl, R1, L1⟩; clear CD; obtain ⟨P, k, hP, hk, hk1, hk2, hb, hg, hcut, hmore⟩ := back_facts hm hf (y := a6) ⟨q60, q61⟩; have C2 := fun W hr hT => encode_any d (some ⟨b, 0, none⟩) m m W hl hm hf hr hT; rw [hP, hk] at C2; obtain ⟨t, ht, htk⟩ := mod_facts (a := a4) q40 hk1; have htk' : (t : Int) < (k : Int) := (by omega); have hk1' : (1 : Int) ≤ (k : Int) := (by omega); have hk2' : (k : Int) ≤ 2000 := (by omega); clear hP hm hf)
    | (go_at_call 10; refine (C2 _ (Row.alloc R1.row _) ((hT.below L1).alloc _)).mono ?_; rintro e v2 ⟨a2, c2, rfl, h1, h2, h3, R2, L2⟩; have B2 := (Blk.new v1 _ _).below L2 (by simp); have M2 := Base.next L1 (Base.next ((Below.refl v1.heap.size v1).alloc (Nat.le_refl _) _) L2); have R12 := R1.row.below (Base.next ((Below.refl v1.heap.size v1).alloc (Nat.le_refl _) _) L2); clear C2 L2)
    | (go_at_call 9; refine (alive_head v2 (hT.below M2)).mono ?_; rintro e v3 ⟨rfl, L3⟩; have B3 := B2.below L3 B2.lt; have M3 := Base.next M2 L3; have R3 := R2.row.below L3; have R13 := R12.below L3; clear B2 L3 R12)
    | (go_at_call 14; have C := decode_got a2 k c2 P v3 hk h1 (by omega) h3 hb R3; unfold GotPost at C; rw [hg] at C; refine C.mono ?_; rintro e v4 ⟨a4', m4, c4, rfl, i1, i2, i3, i4, R4, L4⟩; clear C; have B4 := B3.below L4 B3.lt; have M4 := Base.next M3 L4; have R4b := R3.below L4; have R14 := R13.below L4; clear B3 R3 L4 R13)
    | (go_at_call 14; have C := fun o => decode_got a2 t c2 (P.take t) (v4.alloc o) (by rw [List.length_take]; omega) (by omega) (by omega) (fun e => by have := h3 e; omega) (hb.take t) (Row.alloc (show Row v4 a2 ((P.take t).map (Value.int .u8)) by rw [List.map_take]; exact R4b.take t) o); unfold GotPost at C; rw [hcut t htk] at C; refine (C _).mono ?_; rintro e v5 ⟨a5', m5, c5, rfl, _, _, _, _, _, L5⟩; clear C; have N5 := Base.next ((Below.refl v4.heap.size v4).alloc (Nat.le_refl _) _) L5; have B5 := B4.below N5 B4.lt; have X5 := (Blk.new v4 _ _).below L5 (by simp); have M5 := Base.next M4 N5; have R5b := R4b.below N5; have R15 := R14.below N5; have R45 := R4.row.below N5; clear B4 R4b L5 R14 R4 N5 hcut)
    | (at_builtin; refine wpl_append_row _ rfl _ (.tmp 63) _ rfl v5.heap.size 5 i0 _ 1 1 Tryd.underlying23 hi0 hz0 hz1 hz2 rfl (by omega) (.slice none 0 0) 0 [] rfl (World.ownsRow_nil _ _ _ _) a2 k c2 (P.map (Value.int .u8)) rfl (by simp [hk]) (Row.alloc R5b _) (ints_oneCell _ _) (by unfold maxLen; omega) (by omega) (by simp) ?_; intro u6 v6 hown6 hg6 hat6; have L6 : Below v5.heap.size v5 v6 := ((Below.refl v5.heap.size v5).alloc (Nat.le_refl _) _).grown hg6 (by simp) (by simp [Value.ownBlock]); clear hg6)
    | (at_builtin; refine wpl_append_row _ rfl (.tmp 64) (.tmp 66) _ rfl v5.heap.size 5 i0 _ 1 1 Tryd.underlying23 hi0 hz0 hz1 hz2 rfl (by omega) u6 (0 + k) ([] ++ P.map (Value.int .u8)) rfl (hown6.alloc _) (some ⟨v6.heap.size, 0, none⟩) 1 1 [.int .u8 a6] rfl rfl (Row.lit v6 _ [.int .u8 a6]) (by simp [Value.oneCell']) (by unfold maxLen; omega) (by omega) (by have := L6.size; simp; omega) ?_; intro u7 v7 hown7 hg7 hat7; have L7 : Below v5.heap.size v5 v7 := (L6.alloc L6.size _).grown hg7 (by have := L6.size; simp; omega) (own_new (B := v5.heap.size) hat6 (by simp) (by simp [Value.ownBlock])); clear hg7 hown6 L6 hat6; obtain ⟨a7, c7, rfl, g1, g2, g3, R7⟩ := rowIn_of_own Nat.one_pos hown7; clear hown7)
    | (go_at_call 14; have C := decode_got a7 (k + 1) c7 (P ++ [a6]) v7 (by rw [List.length_append, hk]; rfl) (by omega) (by omega) (fun e => by have := g3 e; omega) (hb.append (Bytes.cons ⟨q60, q61⟩ Bytes.nil)) (.of R7.row (by simp)); unfold GotPost at C; rw [hmore] at C; (with_reducible refine C.mono ?_); rintro e v8 ⟨a8', m8, c8, rfl, _, _, _, _, _, L8⟩; clear C; have N8 := Base.next0 L7 L7.size L8; have B8 := B5.below N8 B5.lt; have X8 := X5.below N8 X5.lt; have M8 := Base.next M5 N8; have R18 := R15.below N8; have R48 := R45.below N8; obtain ⟨d0, d1, d2, d3, d4, d5⟩ := blk6 B8; obtain ⟨x0, x1, x2, x3, x4, x5⟩ := blk6 X8; have hB8 := B8.lt; have hX8 := X8.lt; clear B5 X5 R15 R45 R7 L7 L8 N8 B8 X8 hmore)
    | (go_at_call 16; refine (same_any d (some ⟨b, 0, none⟩) a4' m m m4 c4 _ hl i1 (Row.alloc R18 _) (Row.alloc R48 _)).mono ?_; rintro e v9 ⟨rfl, L9⟩))
  all_goals go_ret
  all_goals exact ⟨by simp, Base.next M8 (Base.next ((Below.refl v8.heap.size v8).alloc (Nat.le_refl _) _) L9)⟩

theorem of_laid' {W : World} (h : laidMetH Tryd.prog Rows.headBackRow.laid W) : Tab.Tab W := Tab.of_laid_2 h
theorem door_met (os : Os) (args : Array Value) : laidMetH Tryd.prog Rows.headBackRow.laid ((World.doorLaid Tryd.prog 19 os).forCall (fun _ _ => 0) ⟨#[], args, []⟩).memory :=
  laidMetH_of_parts3 (fuel := 8) (laidMet_of_run' 8 (by kernel_rfl) (by kernel_rfl)) (by kernel_rfl) (by kernel_rfl)
set_option maxRecDepth 100000 in
theorem lifted (os : Os) (started : os.Started) (H : Type) (enc : TypeId × Value → H) :
    ReturnsInHanded {} Tryd.checked os 5 .any (fun w args => (Rows.headBackSpec.pre enc Tryd.prog Tryd.f5 [] false w args ∧ laidMetH Tryd.prog Rows.headBackRow.laid w) ∧ sizedMet enc Tryd.prog Tryd.f5 (OpenSpec.ofChange Rows.headBackSpec) false w args) (Rows.headBackSpec.post enc Tryd.prog Tryd.f5 false true false false) := by
  refine returnsInHanded_of_change_and (C := Tryd.checked) (X := fun w _ => laidMetH Tryd.prog Rows.headBackRow.laid w) (fun _ _ _ hh h => h.of_heap hh) own started (by kernel_rfl) Tryd.func5
    (ChangeSpec.witness_shaped (enc := enc) (C := Tryd.checked) (os := os) (X := fun w _ => laidMetH Tryd.prog Rows.headBackRow.laid w) false (World.doorLaid Tryd.prog 19 os) #[.int .u64 0, .int .u64 0, .int .u64 0, .int .u16 0, .int .u16 0, .int .i64 0, .int .u8 0] 8 rfl (World.shaped_of_RefB (by kernel_rfl) (by kernel_rfl)) (by kernel_rfl) (by kernel_rfl) (by kernel_rfl) (door_met os _)) ?_
  intro W base args ds gs before hval0 hW _ hsz0 hL _
  have hT := of_laid' hL
  have hval : ∀ (j : Nat) t v, Tryd.f5.params[j]? = some t → args[j]? = some v → Value.okWide Tryd.prog W .any base t v := hval0
  have hW' := hW
  obtain ⟨p, q, hA0, hV, rfl, hfz, hnd⟩ := hW
  have hA : DataW.TrodAll enc Tryd.prog W 0 (fun _ => true) true Tryd.f5.params.toList args.toList ds p := hA0
  rw [Tryd.params5] at hA hval
  obtain ⟨v0, vs0, d0, ds0, p0, q0, hargs, rfl, rfl, h0, r0⟩ := trodAll_cons hA
  obtain ⟨v1, vs1, d1, ds1, p1, q1, rfl, rfl, rfl, h1, r1⟩ := trodAll_cons r0
  obtain ⟨v2, vs2, d2, ds2, p2, q2, rfl, rfl, rfl, h2, r2⟩ := trodAll_cons r1
  obtain ⟨v3, vs3, d3, ds3, p3, q3, rfl, rfl, rfl, h3, r3⟩ := trodAll_cons r2
  obtain ⟨v4, vs4, d4, ds4, p4, q4, rfl, rfl, rfl, h4, r4⟩ := trodAll_cons r3
  obtain ⟨v5, vs5, d5, ds5, p5, q5, rfl, rfl, rfl, h5, r5⟩ := trodAll_cons r4
  obtain ⟨v6, vs6, d6, ds6, p6, q6, rfl, rfl, rfl, h6, r6⟩ := trodAll_cons r5
  obtain ⟨rfl, rfl, rfl⟩ := trodAll_nil r6
  obtain rfl : args = #[v0, v1, v2, v3, v4, v5, v6] := by cases args; simp_all
  obtain ⟨rfl, rfl⟩ := trodVars_none hV
  obtain ⟨a0, rfl, rfl, rfl, w0⟩ := open_int Tryd.underlying22 (hval 0 22 v0 rfl rfl) h0
  obtain ⟨a1, rfl, rfl, rfl, w1⟩ := open_int Tryd.underlying22 (hval 1 22 v1 rfl rfl) h1
  obtain ⟨a2, rfl, rfl, rfl, w2⟩ := open_int Tryd.underlying22 (hval 2 22 v2 rfl rfl) h2
  obtain ⟨a3, rfl, rfl, rfl, w3⟩ := open_int Tryd.underlying38 (hval 3 38 v3 rfl rfl) h3
  obtain ⟨a4, rfl, rfl, rfl, w4⟩ := open_int Tryd.underlying38 (hval 4 38 v4 rfl rfl) h4
  obtain ⟨a5, rfl, rfl, rfl, w5⟩ := open_int Tryd.underlying3 (hval 5 3 v5 rfl rfl) h5
  obtain ⟨a6, rfl, rfl, rfl, w6⟩ := open_int Tryd.underlying5 (hval 6 5 v6 rfl rfl) h6
  clear hA0 hval0
  refine (walk a0 a1 a2 a3 a4 a5 a6 W w0 w1 w2 w3 w4 w5 w6 hT).mono fun e W' ⟨he, bel⟩ => ?_
  subst he
  exact ⟨_, rfl, _, _, _, [], _, [], hW', trodAll_mk1 (shut_bool Tryd.underlying4 _), (trodAll_cons_mk (shut_int Tryd.underlying22 w0) (trodAll_cons_mk (shut_int Tryd.underlying22 w1) (trodAll_cons_mk (shut_int Tryd.underlying22 w2) (trodAll_cons_mk (shut_int Tryd.underlying38 w3) (trodAll_cons_mk (shut_int Tryd.underlying38 w4) (trodAll_cons_mk (shut_int Tryd.underlying3 w5) (trodAll_cons_mk (shut_int Tryd.underlying5 w6) trodAll_mk0))))))), rfl, bel.frame _, fun h => by cases h⟩

theorem over : Rows.headBackRow.holds Tryd.pinned (OpenSpec.ofChange Rows.headBackSpec) :=
  OpenClaim.holds_of_wide 5 Tryd.f5 rfl rfl rfl rfl rfl rfl rfl ⟨rfl, rfl, rfl, rfl, rfl⟩ rfl rfl rfl rfl rfl (by kernel_rfl) Tryd.func5 (by kernel_rfl)
    (of_decide_eq_true (by kernel_rfl)) (by unfold Func.isWrapper; first | (rw [if_pos (by decide +kernel)]; kernel_rfl) | (rw [if_neg (by decide +kernel)]; exact ⟨rfl, rfl⟩))
    (fun os started H enc _ => lifted os started H enc)

/-- The given statement: the row, its listed variables tied to the program's text. -/
theorem proved : Rows.HeadBackCardSaid :=
  Claim7.holds_tied_plain_at .later [] [.data, .data] true (true, "82c1dd0bc4a5d0368e4cdb54e1d26816b9ccbd17d7dd11f8b3719448e7ea3cf2") false
    over (fun _ h => by cases h) (by kernel_rfl) (fun _ h => by cases h) headBack_row_tie rfl ⟨rfl, rfl⟩ (by kernel_rfl) rfl
    (fun f fn hf hfn => by
      obtain rfl : f = 5 := Option.some.inj ((show Tryd.prog.funcNamed "splittally/splittallylaw8.HeadBack" = some 5 by kernel_rfl).symm.trans hf) |>.symm
      obtain rfl : fn = Tryd.f5 := (Option.some.inj (Tryd.func5.symm.trans hfn)).symm
      exact ⟨by kernel_rfl, fun j t ht => by
        rw [Tryd.params5] at ht
        have hm : t ∈ [22, 22, 22, 38, 38, 3, 5] := by simpa using Array.mem_of_getElem? ht
        have hall : ([22, 22, 22, 38, 38, 3, 5].all fun u => !Tryd.prog.wantsStandIn u) = true := by kernel_rfl
        exact (show Tryd.prog.wantsStandIn t = false by simpa using List.all_eq_true.1 hall t hm)⟩)
    (by kernel_rfl)
#print axioms proved
end Go.Proofs.YtbdafmomjboaaaaDoor.headBack
