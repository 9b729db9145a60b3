/-
  A mark takes a packet's coin and changes nothing else, once for all, and of bytes that are no packet it makes none. No conditions beside the table of math/bits, which the card ties to the program's text.
-/
import Derived.SizedLaws
import Derived.Test.YtbdafmomjboaaaaDoorTab
import Derived.Test.YtbdafmomjboaaaaDoorCards
import Derived.Test.YtbdafmomjboaaaaDoorTie
import Derived.SevenTiedAt
import Derived.Handed
import Derived.Test.YtbdafmomjboaaaaDoorRows
import Derived.Test.YtbdafmomjboaaaaDoorRow
import Derived.WalkKit
import Derived.ProofKit
import Derived.OpenShut
import Derived.ShutString
import Derived.ChangeOld
import Derived.Below
import Derived.Test.YtbdafmomjboaaaaDoorHead6
namespace Go.Proofs.YtbdafmomjboaaaaDoor.headMarks
open Go.ChangeShapes Go.WideShapes Go.ChangeAt Go.RowKit
open Go.ChangeMaps (open_string shut_string)
open Go.Proofs.YtbdafmomjboaaaaDoor.Base
set_option linter.unusedVariables false

theorem own : ownKnob Tryd.prog.godebug = none := by kernel_rfl
theorem laidOut : laidOutB Tryd.prog = true := by kernel_rfl

open Go.Proofs.YtbdafmomjboaaaaDoor.Head Go.Proofs.YtbdafmomjboaaaaDoor.Oct Go.Proofs.YtbdafmomjboaaaaDoor.OctPlain Go.Proofs.YtbdafmomjboaaaaDoor.HeadPlain Go.Proofs.YtbdafmomjboaaaaDoor.Tab
theorem mark_facts {d : D} (hm : may d = true) (hf : Fit d) : ∃ (P : List Int) (k : Nat) (Q : List Int) (j : Nat), putData d = P ∧ P.length = k ∧ k ≤ 2000 ∧ Bytes P ∧ getData P = (d, 0) ∧ markL P = Q ∧ Q.length = j ∧ j ≤ 2000 ∧ Bytes Q ∧ getData Q = (marked d, 0) ∧ markL Q = Q := by
  obtain ⟨m1, m2, m3, m4, m5, m6, m7⟩ := may_iff.1 hm
  have g1 : getData (putData d) = (d, 0) := by
    have := get_put hm hf []
    simpa using this
  have g2 : getData (putData (marked d)) = (marked d, 0) := by
    have := get_put (may_marked hm) (fit_marked hf) []
    simpa using this
  have e1 : markL (putData d) = putData (marked d) := by unfold markL; rw [g1]; rfl
  refine ⟨putData d, _, putData (marked d), _, rfl, rfl, ?_, put_data_bytes hm hf.2.2.2.2.2, g1, e1, rfl, ?_, put_data_bytes (may_marked hm) hf.2.2.2.2.2, g2, by unfold markL; rw [g2]; rfl⟩
  · have := put_data_len d
    omega
  · have := put_data_len (marked d)
    have : (marked d).body.length = d.body.length := rfl
    omega
theorem ok_true {l : List Int} {d : D} (h : getData l = (d, 0)) : decide ((getData l).2 = 0) = true := by rw [h]; rfl
theorem walk (a0 : Int) (a1 : Int) (a2 : Int) (a3 : Int) (a4 : Int) (a5 : Option Addr) (len5 cap5 : Nat) (z5 : List Int)  (w : World) (w0 : (Lit.int .u64 a0).wf = true) (w1 : (Lit.int .u64 a1).wf = true) (w2 : (Lit.int .u64 a2).wf = true) (w3 : (Lit.int .u16 a3).wf = true) (w4 : (Lit.int .i64 a4).wf = true) (w5 : Ints .u8 w a5 z5) (n5 : z5.length = len5) (m5 : len5 ≤ cap5) (o5 : cap5 ≤ maxLen) (f5 : ∀ x ∈ z5, (Lit.int .u8 x).wf = true) (b5 : cap5 * 1 ≤ 140737488351232) (e5 : a5 = none → len5 = 0 ∧ cap5 = 0) (hT : Tab.Tab w) :
    Calls Tryd.prog 7 #[.int .u64 a0, .int .u64 a1, .int .u64 a2, .int .u16 a3, .int .i64 a4, .slice a5 len5 cap5] w fun e w' => e = .returned (.bool true) ∧ Below w.heap.size w w' := by
  subst n5
  have hbz : Bytes z5 := fun x hx => Base.u8_of (f5 x hx)
  have hlen : z5.length ≤ 140737488355328 := by omega
  have u0 := Base.u64_of w0
  have u1 := Base.u64_of w1
  have u2 := Base.u64_of w2
  have u3 := Base.u16_of w3
  have u4 := Base.i64_of w4
  have CD := data_any a0 a1 a2 a3 a4 w u0.1 u0.2 u1.1 u1.2 u2.1 u2.2 u3.1 u3.2 u4.1 u4.2
  obtain ⟨N, hN⟩ : ∃ N, markL z5 = N := ⟨_, rfl⟩
  obtain ⟨g, hgz⟩ : ∃ g, decide ((getData z5).2 = 0) = g := ⟨_, rfl⟩
  have CM := fun W hz hT => mark_any a5 z5.length cap5 z5 W rfl m5 hlen e5 hbz hz hT
  have CR := fun W hz => ref_mark a5 z5.length cap5 z5 W rfl m5 o5 hlen hbz hz
  unfold MarkPost at CM CR
  rw [hN, hgz] at CM CR
  clear u0 u1 u2 u3 u4 w0 w1 w2 w3 w4 hN hgz f5
  go_enter Tryd.func7, Tryd.ntmps7
  go_wp2_with (first
    | (go_at_call 17; refine CD.mono ?_; rintro e v1 ⟨d, b, m, rfl, hm, hf, hl, R1, L1⟩; clear CD; obtain ⟨P, k, Q, j, hP, hk, hk2, hb, hg, hQ, hj, hj2, hbQ, hgQ, hQQ⟩ := mark_facts hm hf; have C2 := fun W hr hT => encode_any d (some ⟨b, 0, none⟩) m m W hl hm hf hr hT; rw [hP, hk] at C2; clear hP hm hf)
    | (go_at_call 10; refine (C2 _ (Row.alloc R1.row _) ((hT.below L1).alloc _)).mono ?_; rintro e v2 ⟨p2, c2, rfl, h1, h2, h3, R2, L2⟩; have B2 := (Blk.new v1 _ _).below L2 (by simp); have K2 := Base.next ((Below.refl v1.heap.size v1).alloc (Nat.le_refl _) _) L2; clear C2 L2)
    | (go_at_call 9; refine (alive_head v2 (hT.below (Base.next L1 K2))).mono ?_; rintro e v3 ⟨rfl, L3⟩; have B3 := B2.below L3 B2.lt; have K3 := Base.next K2 L3; have R3 := R2.row.below L3; have hv3 := B3.lt; clear B2 L3 R2 K2)
    | (go_at_call 18; have C := mark_any p2 k c2 P v3 hk h1 (by omega) h3 hb R3 (hT.below (Base.next L1 K3)); unfold MarkPost at C; rw [hQ, hj, ok_true hg] at C; refine C.mono ?_; rintro e v4 ⟨aQ, cQ, rfl, j1, j2, j3, RQ, L4⟩; clear C; have B4 := B3.below L4 B3.lt; have K4 := Base.next K3 L4; obtain ⟨_, _, _, _, c4, _⟩ := blk6 B4; have g4 := B4.free 4; have F4 : Fr (fun k => k = v1.heap.size) v4 (v4.setCell ⟨v1.heap.size, 4, none⟩ (.int .i64 3)) := Fr.setCell (S := fun k => k = v1.heap.size) (Fr.refl _ _) (p := ⟨v1.heap.size, 4, none⟩) (fun _ => rfl) _; have B4s : Blk (v4.setCell ⟨v1.heap.size, 4, none⟩ (.int .i64 3)) v1.heap.size #[.int .u64 d.pn, .int .u64 d.least, .int .u64 d.off, .int .u64 d.nonce, .int .i64 3, .slice (some ⟨b, 0, none⟩) m m] 25 := B4.set 4 (.int .i64 3); have K4s := F4.below K4 K4.size (by rintro k rfl; exact Nat.le_refl _); have RQs := (RQ.kept F4 (fun k hk e => by omega)).row; clear B3 R3 L4 K3 B4 K4 RQ F4)
    | (go_at_call 14; generalize v4.setCell ⟨v1.heap.size, 4, none⟩ (.int .i64 3) = V at B4s K4s RQs ⊢; clear c4 g4; have C := decode_got aQ j cQ Q V hj j1 (by omega) j3 hbQ RQs; unfold GotPost at C; rw [hgQ] at C; refine C.mono ?_; rintro e v5 ⟨x5, m5', c5, rfl, i1, i2, i3, i4, R5, L5⟩; clear C; have B5 := B4s.below L5 B4s.lt; have K5 := Base.next K4s L5; have RQ5 := RQs.below L5; clear B4s K4s RQs L5)
    | (go_at_call 18; have C := fun o hT => mark_any aQ j cQ Q (v5.alloc o) hj j1 (by omega) j3 hbQ (Row.alloc RQ5 o) hT; unfold MarkPost at C; rw [hQQ, hj, ok_true hgQ] at C; refine (C _ ((hT.below (Base.next L1 K5)).alloc _)).mono ?_; rintro e v6 ⟨bQ, dQ, rfl, _, _, _, RB6, L6⟩; clear C; have N6 := Base.next ((Below.refl v5.heap.size v5).alloc (Nat.le_refl _) _) L6; have B6 := B5.below N6 B5.lt; have X6 := (Blk.new v5 _ _).below L6 (by simp); have K6 := Base.next K5 N6; have RQ6 := RQ5.below N6; have R6 := R5.row.below N6; clear B5 L6 K5 RQ5 R5 N6 hQQ hgQ)
    | (go_at_call 18; (with_reducible refine (CM v6 (w5.below (Base.next L1 K6)) (hT.below (Base.next L1 K6))).mono ?_); rintro e v7 ⟨aN, cN, rfl, _, _, _, RN7, L7⟩; clear CM; have B7 := B6.below L7 B6.lt; have X7 := X6.below L7 X6.lt; have K7 := Base.next K6 L7; have RQ7 := RQ6.below L7; have RB7 := RB6.row.below L7; have R7 := R6.below L7; clear B6 X6 L7 K6 RQ6 RB6 R6)
    | (go_at_call 19; refine (CR v7 (w5.below (Base.next L1 K7))).mono ?_; rintro e v8 ⟨bN, dN, rfl, _, _, _, RM8, L8⟩; clear CR; have B8 := B7.below L8 B7.lt; have X8 := X7.below L8 X7.lt; have K8 := Base.next K7 L8; have RQ8 := RQ7.below L8; have RB8 := RB7.below L8; have RN8 := RN7.row.below L8; have R8 := R7.below L8; have R18 := R1.row.below K8; obtain ⟨d0, d1, d2, d3, d4, d5⟩ := blk6 B8; obtain ⟨x0, x1, x2, x3, x4, x5'⟩ := blk6 X8; have hB8 := B8.lt; have hX8 := X8.lt; clear B7 X7 L8 K7 RQ7 RB7 RN7 R7 B8 X8)
    | (go_at_call 16; refine (same_any (marked d) x5 (some ⟨b, 0, none⟩) m5' c5 m m v8 i1 hl R8 R18).mono ?_; rintro e v9 ⟨rfl, L9⟩; have s1 := str_of v9 aQ j cQ Q hj (RQ8.below L9); have s2 := str_of v9 bQ j dQ Q hj (RB8.below L9); have s3 := str_of v9 aN _ cN N rfl (RN8.below L9); have s4 := str_of v9 bN _ dN N rfl (RM8.row.below L9)))
  all_goals go_ret
  all_goals exact ⟨by simp, Base.next (Base.next L1 K8) L9⟩

theorem of_laid' {W : World} (h : laidMetH Tryd.prog Rows.headMarksRow.laid W) : Tab.Tab W := Tab.of_laid_2 h
theorem door_met (os : Os) (args : Array Value) : laidMetH Tryd.prog Rows.headMarksRow.laid ((World.doorLaid Tryd.prog 19 os).forCall (fun _ _ => 0) ⟨#[], args, []⟩).memory :=
  laidMetH_of_parts3 (fuel := 8) (laidMet_of_run' 8 (by kernel_rfl) (by kernel_rfl)) (by kernel_rfl) (by kernel_rfl)
set_option maxRecDepth 100000 in
theorem lifted (os : Os) (started : os.Started) (H : Type) (enc : TypeId × Value → H) :
    ReturnsInHanded {} Tryd.checked os 7 .any (fun w args => (Rows.headMarksSpec.pre enc Tryd.prog Tryd.f7 [] false w args ∧ laidMetH Tryd.prog Rows.headMarksRow.laid w) ∧ sizedMet enc Tryd.prog Tryd.f7 (OpenSpec.ofChange Rows.headMarksSpec) false w args) (Rows.headMarksSpec.post enc Tryd.prog Tryd.f7 false true false false) := by
  refine returnsInHanded_of_change_and (C := Tryd.checked) (X := fun w _ => laidMetH Tryd.prog Rows.headMarksRow.laid w) (fun _ _ _ hh h => h.of_heap hh) own started (by kernel_rfl) Tryd.func7
    (ChangeSpec.witness_shaped (enc := enc) (C := Tryd.checked) (os := os) (X := fun w _ => laidMetH Tryd.prog Rows.headMarksRow.laid w) false (World.doorLaid Tryd.prog 19 os) #[.int .u64 0, .int .u64 0, .int .u64 0, .int .u16 0, .int .i64 0, .slice none 0 0] 8 rfl (World.shaped_of_RefB (by kernel_rfl) (by kernel_rfl)) (by kernel_rfl) (by kernel_rfl) (by kernel_rfl) (door_met os _)) ?_
  intro W base args ds gs before hval0 hW _ hsz0 hL _
  have hT := of_laid' hL
  have hval : ∀ (j : Nat) t v, Tryd.f7.params[j]? = some t → args[j]? = some v → Value.okWide Tryd.prog W .any base t v := hval0
  have hW' := hW
  obtain ⟨p, q, hA0, hV, rfl, hfz, hnd⟩ := hW
  have hA : DataW.TrodAll enc Tryd.prog W 0 (fun _ => true) true Tryd.f7.params.toList args.toList ds p := hA0
  rw [Tryd.params7] at hA hval
  obtain ⟨v0, vs0, d0, ds0, p0, q0, hargs, rfl, rfl, h0, r0⟩ := trodAll_cons hA
  obtain ⟨v1, vs1, d1, ds1, p1, q1, rfl, rfl, rfl, h1, r1⟩ := trodAll_cons r0
  obtain ⟨v2, vs2, d2, ds2, p2, q2, rfl, rfl, rfl, h2, r2⟩ := trodAll_cons r1
  obtain ⟨v3, vs3, d3, ds3, p3, q3, rfl, rfl, rfl, h3, r3⟩ := trodAll_cons r2
  obtain ⟨v4, vs4, d4, ds4, p4, q4, rfl, rfl, rfl, h4, r4⟩ := trodAll_cons r3
  obtain ⟨v5, vs5, d5, ds5, p5, q5, rfl, rfl, rfl, h5, r5⟩ := trodAll_cons r4
  obtain ⟨rfl, rfl, rfl⟩ := trodAll_nil r5
  obtain rfl : args = #[v0, v1, v2, v3, v4, v5] := by cases args; simp_all
  obtain ⟨rfl, rfl⟩ := trodVars_none hV
  have hsz : (DataW.weightsEach Tryd.prog [22, 22, 22, 38, 3, 23] [d0, d1, d2, d3, d4, d5]).all (· ≤ reachBytes) = true := hsz0
  obtain ⟨a0, rfl, rfl, rfl, w0⟩ := open_int Tryd.underlying22 (hval 0 22 v0 rfl rfl) h0
  obtain ⟨a1, rfl, rfl, rfl, w1⟩ := open_int Tryd.underlying22 (hval 1 22 v1 rfl rfl) h1
  obtain ⟨a2, rfl, rfl, rfl, w2⟩ := open_int Tryd.underlying22 (hval 2 22 v2 rfl rfl) h2
  obtain ⟨a3, rfl, rfl, rfl, w3⟩ := open_int Tryd.underlying38 (hval 3 38 v3 rfl rfl) h3
  obtain ⟨a4, rfl, rfl, rfl, w4⟩ := open_int Tryd.underlying3 (hval 4 3 v4 rfl rfl) h4
  obtain ⟨a5, len5, cap5, rfl⟩ := okWide_slice Tryd.underlying23 (hval 5 23 v5 rfl rfl)
  have k5 := h5
  have lt5 : ∀ x ∈ p5, x.block < W.heap.size := by obtain ⟨m, hm⟩ := k5; exact DataW.trod_lt m _ _ _ hm
  obtain ⟨z5, w5, n5, m5, o5, f5, b5, e5⟩ : ∃ zs, Ints .u8 W a5 zs ∧ zs.length = len5 ∧ len5 ≤ cap5 ∧ cap5 ≤ maxLen ∧ (∀ x ∈ zs, (Lit.int .u8 x).wf = true) ∧ cap5 * 1 ≤ 140737488351232 ∧ (a5 = none → len5 = 0 ∧ cap5 = 0) := by
    obtain ⟨fuel, hf⟩ := h5
    rcases open_ints Tryd.underlying23 Tryd.underlying5 (by kernel_rfl) hf with ⟨hcs, hx⟩ | ⟨x, l, c, zs, hcs, _, hl, hm, hz, hx, hcell, hwz⟩
    · simp [Value.cells] at hcs
      obtain ⟨rfl, rfl, rfl⟩ := hcs
      exact ⟨[], Row.nil _ _, rfl, Nat.le_refl _, Nat.zero_le _, (fun _ h => by cases h), by decide, fun _ => ⟨rfl, rfl⟩⟩
    · simp [Value.cells] at hcs
      obtain ⟨rfl, rfl, rfl⟩ := hcs
      exact ⟨zs.take len5, ints_of hl (by simpa using hz) hcell, take_len hl (by simpa using hz), hl, hm, (fun x hx => hwz x (List.mem_of_mem_take hx)), by
          have hd := congrArg Prod.fst hx
          dsimp only at hd
          have := sized_slice hsz (j := 5) (t := 23) (e := 5) (elems := lits .u8 (zs.take len5)) (spare := lits .u8 (zs.drop len5)) rfl (by rw [← hd]; rfl) Tryd.underlying23
          rw [show Tryd.prog.bytesOf 5 = 1 by kernel_rfl] at this
          simp only [lits, List.length_map, List.length_take, List.length_drop, reachBytes] at this
          have hz2 : zs.length = cap5 := (by simpa using hz)
          omega, fun e => by cases e⟩
  clear hA0 hval0
  refine (walk a0 a1 a2 a3 a4 a5 len5 cap5 z5 W w0 w1 w2 w3 w4 w5 n5 m5 o5 f5 b5 e5 hT).mono fun e W' ⟨he, bel⟩ => ?_
  subst he
  exact ⟨_, rfl, _, _, _, [], _, [], hW', trodAll_mk1 (shut_bool Tryd.underlying4 _), (trodAll_cons_mk (shut_int Tryd.underlying22 w0) (trodAll_cons_mk (shut_int Tryd.underlying22 w1) (trodAll_cons_mk (shut_int Tryd.underlying22 w2) (trodAll_cons_mk (shut_int Tryd.underlying38 w3) (trodAll_cons_mk (shut_int Tryd.underlying3 w4) (trodAll_cons_mk (Below.trod laidOut (by kernel_rfl) (of_decide_eq_true (by kernel_rfl)) k5 bel lt5) trodAll_mk0)))))), rfl, bel.frame _, fun h => by cases h⟩

theorem over : Rows.headMarksRow.holds Tryd.pinned (OpenSpec.ofChange Rows.headMarksSpec) :=
  OpenClaim.holds_of_wide 7 Tryd.f7 rfl rfl rfl rfl rfl rfl rfl ⟨rfl, rfl, rfl, rfl, rfl⟩ rfl rfl rfl rfl rfl (by kernel_rfl) Tryd.func7 (by kernel_rfl)
    (of_decide_eq_true (by kernel_rfl)) (by unfold Func.isWrapper; first | (rw [if_pos (by decide +kernel)]; kernel_rfl) | (rw [if_neg (by decide +kernel)]; exact ⟨rfl, rfl⟩))
    (fun os started H enc _ => lifted os started H enc)

/-- The given statement: the row, its listed variables tied to the program's text. -/
theorem proved : Rows.HeadMarksCardSaid :=
  Claim7.holds_tied_plain_at .later [] [.data, .data] true (true, "82c1dd0bc4a5d0368e4cdb54e1d26816b9ccbd17d7dd11f8b3719448e7ea3cf2") false
    over (fun _ h => by cases h) (by kernel_rfl) (fun _ h => by cases h) headMarks_row_tie rfl ⟨rfl, rfl⟩ (by kernel_rfl) rfl
    (fun f fn hf hfn => by
      obtain rfl : f = 7 := Option.some.inj ((show Tryd.prog.funcNamed "splittally/splittallylaw8.HeadMarks" = some 7 by kernel_rfl).symm.trans hf) |>.symm
      obtain rfl : fn = Tryd.f7 := (Option.some.inj (Tryd.func7.symm.trans hfn)).symm
      exact ⟨by kernel_rfl, fun j t ht => by
        rw [Tryd.params7] at ht
        have hm : t ∈ [22, 22, 22, 38, 3, 23] := by simpa using Array.mem_of_getElem? ht
        have hall : ([22, 22, 22, 38, 3, 23].all fun u => !Tryd.prog.wantsStandIn u) = true := by kernel_rfl
        exact (show Tryd.prog.wantsStandIn t = false by simpa using List.all_eq_true.1 hall t hm)⟩)
    (by kernel_rfl)
#print axioms proved
end Go.Proofs.YtbdafmomjboaaaaDoor.headMarks
