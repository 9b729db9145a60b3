/-
  Bytes that are a packet are its bytes, and no other ones, also where one byte of a packet's bytes was turned. No conditions beside the table of math/bits, which the card ties to the program's text.
-/
import Derived.SizedLaws
import Derived.Test.YtbdafmomjboaaaaDoorTab
import Derived.Test.YtbdafmomjboaaaaDoorCards
import Derived.Test.YtbdafmomjboaaaaDoorTie
import Derived.SevenTiedAt
import Derived.Handed
import Derived.Test.YtbdafmomjboaaaaDoorRows
import Derived.Test.YtbdafmomjboaaaaDoorRow
import Derived.WalkKit
import Derived.ProofKit
import Derived.OpenShut
import Derived.ShutString
import Derived.ChangeOld
import Derived.Below
import Derived.Test.YtbdafmomjboaaaaDoorHead7
namespace Go.Proofs.YtbdafmomjboaaaaDoor.headOne
open Go.ChangeShapes Go.WideShapes Go.ChangeAt Go.RowKit
open Go.ChangeMaps (open_string shut_string)
open Go.Proofs.YtbdafmomjboaaaaDoor.Base
set_option linter.unusedVariables false

theorem own : ownKnob Tryd.prog.godebug = none := by kernel_rfl
theorem laidOut : laidOutB Tryd.prog = true := by kernel_rfl

open Go.Proofs.YtbdafmomjboaaaaDoor.Head Go.Proofs.YtbdafmomjboaaaaDoor.Oct Go.Proofs.YtbdafmomjboaaaaDoor.OctPlain Go.Proofs.YtbdafmomjboaaaaDoor.HeadPlain Go.Proofs.YtbdafmomjboaaaaDoor.Tab
theorem mod_facts {a : Int} {k : Nat} (h0 : 0 ≤ a) (hk : 1 ≤ k) : ∃ t : Nat, a.tmod (k : Int) = t ∧ t < k := by
  have h1 := Int.emod_nonneg a (show (k : Int) ≠ 0 by omega)
  have h2 := Int.emod_lt_of_pos a (show (0 : Int) < k by omega)
  exact ⟨(a % (k : Int)).toNat, by rw [Int.tmod_eq_emod_of_nonneg h0]; omega, by omega⟩
theorem put_facts {d : D} (hm : may d = true) (hf : Fit d) : ∃ P : List Int, putData d = P ∧ 1 ≤ P.length ∧ P.length ≤ 2000 ∧ Bytes P := by
  obtain ⟨m1, m2, m3, m4, m5, m6, m7⟩ := may_iff.1 hm
  refine ⟨putData d, rfl, by unfold putData; simp, ?_, put_data_bytes hm hf.2.2.2.2.2⟩
  have := put_data_len d
  omega
theorem zero_may : may ⟨0, 0, 0, 0, 0, []⟩ = false := by decide +kernel
set_option maxHeartbeats 1000000 in
theorem walk (a0 : Int) (a1 : Int) (a2 : Int) (a3 : Int) (a4 : Int) (a5 : Int) (a6 : Option Addr) (len6 cap6 : Nat) (z6 : List Int)  (w : World) (w0 : (Lit.int .u64 a0).wf = true) (w1 : (Lit.int .u64 a1).wf = true) (w2 : (Lit.int .u64 a2).wf = true) (w3 : (Lit.int .u16 a3).wf = true) (w4 : (Lit.int .u16 a4).wf = true) (w5 : (Lit.int .u8 a5).wf = true) (w6 : Ints .u8 w a6 z6) (n6 : z6.length = len6) (m6 : len6 ≤ cap6) (o6 : cap6 ≤ maxLen) (f6 : ∀ x ∈ z6, (Lit.int .u8 x).wf = true) (b6 : cap6 * 1 ≤ 140737488351232) (e6 : a6 = none → len6 = 0 ∧ cap6 = 0) (hT : Tab.Tab w) :
    Calls Tryd.prog 6 #[.int .u64 a0, .int .u64 a1, .int .u64 a2, .int .u16 a3, .int .u16 a4, .int .u8 a5, .slice a6 len6 cap6] w fun e w' => e = .returned (.bool true) ∧ Below w.heap.size w w' := by
  subst n6
  have hbz : Bytes z6 := fun x hx => Base.u8_of (f6 x hx)
  have hlen : z6.length ≤ 140737488355328 := by omega
  have u0 := Base.u64_of w0
  have u1 := Base.u64_of w1
  have u2 := Base.u64_of w2
  have u3 := Base.u16_of w3
  have u4 := Base.u16_of w4
  have u5 := Base.u8_of w5
  have CD := data_any a0 a1 a2 a3 a4 w u0.1 u0.2 u1.1 u1.2 u2.1 u2.2 u3.1 u3.2 (by omega) (by omega)
  obtain ⟨q40, q41⟩ := u4
  obtain ⟨q50, q51⟩ := u5
  clear u0 u1 u2 u3 w0 w1 w2 w3 w4 w5 f6
  go_enter Tryd.func6, Tryd.ntmps6
  go_wp2_with (first
    | (go_at_call 17; refine CD.mono ?_; rintro e v1 ⟨d, b, m, rfl, hm, hf, hl, R1, L1⟩; clear CD; obtain ⟨P, hP, hk1, hk2, hbP⟩ := put_facts hm hf; have C2 := fun W hr => ref_put_own d (some ⟨b, 0, none⟩) m m W hl hm hf hr; rw [hP] at C2; obtain ⟨t, ht, htk⟩ := mod_facts (a := a4) q40 hk1; have htk' : (t : Int) < (P.length : Int) := (by omega); have hk1' : (1 : Int) ≤ (P.length : Int) := (by omega); have hk2' : (P.length : Int) ≤ 2000 := (by omega); clear hP hm hf)
    | (go_at_call 13; refine (C2 _ (Row.alloc R1.row _)).mono ?_; rintro e v2 ⟨u, rfl, O2, L2⟩; clear C2; obtain ⟨g, cap, x, rfl, hg1, hg2, hg3, hgx, hgc, hgf, hgs⟩ := own_set O2 htk; have M2 := Base.next L1 (Base.next ((Below.refl v1.heap.size v1).alloc (Nat.le_refl _) _) L2); have htc : (t : Int) < (cap : Int) := (by omega); clear L2 O2))
  have hxb := hbP x (List.mem_of_getElem? hgx)
  have hyb := xor_bd hxb ⟨q50, q51⟩
  have RC := hgs (bits .xor .u8 x a5)
  have hgw : w.heap.size ≤ g := by have := L1.size; simp only [World.size_alloc] at hg1; omega
  have F : Fr (fun k => k = g) v2 (v2.setCell ⟨g, t, none⟩ (.int .u8 (bits .xor .u8 x a5))) := Fr.setCell (S := fun k => k = g) (Fr.refl _ _) (p := ⟨g, t, none⟩) (fun _ => rfl) _
  have M := F.below M2 M2.size (by rintro k rfl; exact hgw)
  have hbQ := bytes_set hbP t hyb
  have hQl : (P.set t (bits .xor .u8 x a5)).length = P.length := List.length_set
  generalize P.set t (bits .xor .u8 x a5) = Q at RC hbQ hQl
  generalize v2.setCell ⟨g, t, none⟩ (.int .u8 (bits .xor .u8 x a5)) = V at RC M ⊢
  have RZ : Ints .u8 V a6 z6 := w6.below M
  have RC : Ints .u8 V (some ⟨g, 0, none⟩) Q := RC
  have hTV := hT.below M
  have HQ := Lib.hid hQl
  clear hQl F hgs hgc hgf hgx M2 R1 hg1 hxb hyb ht htk htk' htc
  have x0 : ∀ w, (Instr.index 41 (.agg #[.slice a6 z6.length cap6, .slice (some ⟨g, 0, none⟩) P.length cap]) (.int .i64 0)).run Tryd.prog w = .ok (.slice a6 z6.length cap6) w := fun _ => by kernel_rfl
  have x1 : ∀ w, (Instr.index 41 (.agg #[.slice a6 z6.length cap6, .slice (some ⟨g, 0, none⟩) P.length cap]) (.int .i64 1)).run Tryd.prog w = .ok (.slice (some ⟨g, 0, none⟩) P.length cap) w := fun _ => by kernel_rfl
  go_loopw [46] (fun i wr => ∃ j : Nat, j ≤ 2 ∧ i = .int .i64 j ∧ Below V.heap.size V wr) (fun i _ => 2 - (intOf i).toNat)
  case atStart => exact ⟨0, by omega, rfl, Below.refl _ _⟩
  case round =>
    obtain ⟨j, hj, rfl, hL⟩ := hrel
    by_cases h0 : j = 0
    · subst h0
      rcases one_facts hbz with ⟨D, hg, hP, hm, hf⟩ | ⟨x, hx, hg⟩
      · have C := decode_got a6 z6.length cap6 z6 wr rfl m6 hlen e6 hbz (RZ.below hL)
        unfold GotPost at C
        rw [hg] at C
        dsimp only at C
        clear hg
        go_wp2_with (first
          | (go_at_call 14; refine C.mono ?_; rintro e v5 ⟨x5, m5, c5, rfl, i1, i2, i3, i4, R5, L5⟩; have M5 := Base.next hL L5; clear C)
          | (go_at_call 10; have C2 := fun o hT => encode_any D x5 m5 c5 (v5.alloc o) i1 hm hf (Row.alloc R5.row o) hT; rw [hP] at C2; refine (C2 _ ((hTV.below M5).alloc _)).mono ?_; rintro e v6 ⟨x6, c6, rfl, _, _, _, R6, L6⟩; have M6 := Base.next M5 (Base.next ((Below.refl v5.heap.size v5).alloc (Nat.le_refl _) _) L6); clear C2)
          | (go_at_call 9; refine (alive_head v6 (hTV.below M6)).mono ?_; rintro e v7 ⟨rfl, L7⟩; have M7 := Base.next M6 L7; have s1 := str_of v7 x6 _ c6 z6 rfl (R6.row.below L7); have s2 := str_of v7 a6 z6.length cap6 z6 rfl (RZ.below M7)))
        all_goals go_roundw
        case rel => exact ⟨0 + 1, by omega, by go_num, M7⟩
        case measure => (simp [intOf]; try omega)
      · have C := decode_got a6 z6.length cap6 z6 wr rfl m6 hlen e6 hbz (RZ.below hL)
        unfold GotPost at C
        rw [hg] at C
        dsimp only [zero] at C
        clear hg
        have C2 := fun a m c W h1 h2 => encode_bad ⟨0, 0, 0, 0, 0, []⟩ a m c W h1 h2 zero_may
        dsimp only at C2
        go_wp2_with (first
          | (go_at_call 14; refine C.mono ?_; rintro e v5 ⟨x5, m5, c5, rfl, i1, i2, i3, i4, R5, L5⟩; have M5 := Base.next hL L5; clear C)
          | (go_at_call 10; refine (C2 x5 m5 c5 _ i1 (by unfold maxLen at i3; omega)).mono ?_; rintro e v6 ⟨rfl, L6⟩; have M6 := Base.next M5 (Base.next ((Below.refl v5.heap.size v5).alloc (Nat.le_refl _) _) L6); clear C2)
          | (go_at_call 9; refine (alive_head v6 (hTV.below M6)).mono ?_; rintro e v7 ⟨rfl, L7⟩; have M7 := Base.next M6 L7))
        all_goals go_roundw
        case rel => exact ⟨0 + 1, by omega, by go_num, M7⟩
        case measure => (simp [intOf]; try omega)
    · by_cases h1 : j = 1
      · subst h1
        rcases one_facts hbQ with ⟨D, hg, hP, hm, hf⟩ | ⟨x, hx, hg⟩
        · have C := decode_got (some ⟨g, 0, none⟩) P.length cap Q wr HQ.out hg2 (by omega) (fun e => by cases e) hbQ (RC.below hL)
          unfold GotPost at C
          rw [hg] at C
          dsimp only at C
          clear hg
          go_wp2_with (first
            | (go_at_call 14; refine C.mono ?_; rintro e v5 ⟨x5, m5, c5, rfl, i1, i2, i3, i4, R5, L5⟩; have M5 := Base.next hL L5; clear C)
            | (go_at_call 10; have C2 := fun o hT => encode_any D x5 m5 c5 (v5.alloc o) i1 hm hf (Row.alloc R5.row o) hT; rw [hP] at C2; refine (C2 _ ((hTV.below M5).alloc _)).mono ?_; rintro e v6 ⟨x6, c6, rfl, _, _, _, R6, L6⟩; have M6 := Base.next M5 (Base.next ((Below.refl v5.heap.size v5).alloc (Nat.le_refl _) _) L6); clear C2)
            | (go_at_call 9; refine (alive_head v6 (hTV.below M6)).mono ?_; rintro e v7 ⟨rfl, L7⟩; have M7 := Base.next M6 L7; have s1 := str_of v7 x6 _ c6 Q rfl (R6.row.below L7); have s2 := str_of v7 (some ⟨g, 0, none⟩) P.length cap Q HQ.out (RC.below M7)))
          all_goals go_roundw
          case rel => exact ⟨1 + 1, by omega, by go_num, M7⟩
          case measure => (simp [intOf]; try omega)
        · have C := decode_got (some ⟨g, 0, none⟩) P.length cap Q wr HQ.out hg2 (by omega) (fun e => by cases e) hbQ (RC.below hL)
          unfold GotPost at C
          rw [hg] at C
          dsimp only [zero] at C
          clear hg
          have C2 := fun a m c W h1 h2 => encode_bad ⟨0, 0, 0, 0, 0, []⟩ a m c W h1 h2 zero_may
          dsimp only at C2
          go_wp2_with (first
            | (go_at_call 14; refine C.mono ?_; rintro e v5 ⟨x5, m5, c5, rfl, i1, i2, i3, i4, R5, L5⟩; have M5 := Base.next hL L5; clear C)
            | (go_at_call 10; refine (C2 x5 m5 c5 _ i1 (by unfold maxLen at i3; omega)).mono ?_; rintro e v6 ⟨rfl, L6⟩; have M6 := Base.next M5 (Base.next ((Below.refl v5.heap.size v5).alloc (Nat.le_refl _) _) L6); clear C2)
            | (go_at_call 9; refine (alive_head v6 (hTV.below M6)).mono ?_; rintro e v7 ⟨rfl, L7⟩; have M7 := Base.next M6 L7))
          all_goals go_roundw
          case rel => exact ⟨1 + 1, by omega, by go_num, M7⟩
          case measure => (simp [intOf]; try omega)
      · obtain rfl : j = 2 := by omega
        go_wp2_with (go_at_call 9; refine (alive_head wr (hTV.below hL)).mono ?_; rintro e v7 ⟨rfl, L7⟩)
        go_ret
        exact ⟨rfl, Base.next M (Base.next hL L7)⟩

theorem of_laid' {W : World} (h : laidMetH Tryd.prog Rows.headOneRow.laid W) : Tab.Tab W := Tab.of_laid_2 h
theorem door_met (os : Os) (args : Array Value) : laidMetH Tryd.prog Rows.headOneRow.laid ((World.doorLaid Tryd.prog 19 os).forCall (fun _ _ => 0) ⟨#[], args, []⟩).memory :=
  laidMetH_of_parts3 (fuel := 8) (laidMet_of_run' 8 (by kernel_rfl) (by kernel_rfl)) (by kernel_rfl) (by kernel_rfl)
set_option maxRecDepth 100000 in
theorem lifted (os : Os) (started : os.Started) (H : Type) (enc : TypeId × Value → H) :
    ReturnsInHanded {} Tryd.checked os 6 .any (fun w args => (Rows.headOneSpec.pre enc Tryd.prog Tryd.f6 [] false w args ∧ laidMetH Tryd.prog Rows.headOneRow.laid w) ∧ sizedMet enc Tryd.prog Tryd.f6 (OpenSpec.ofChange Rows.headOneSpec) false w args) (Rows.headOneSpec.post enc Tryd.prog Tryd.f6 false true false false) := by
  refine returnsInHanded_of_change_and (C := Tryd.checked) (X := fun w _ => laidMetH Tryd.prog Rows.headOneRow.laid w) (fun _ _ _ hh h => h.of_heap hh) own started (by kernel_rfl) Tryd.func6
    (ChangeSpec.witness_shaped (enc := enc) (C := Tryd.checked) (os := os) (X := fun w _ => laidMetH Tryd.prog Rows.headOneRow.laid w) false (World.doorLaid Tryd.prog 19 os) #[.int .u64 0, .int .u64 0, .int .u64 0, .int .u16 0, .int .u16 0, .int .u8 0, .slice none 0 0] 8 rfl (World.shaped_of_RefB (by kernel_rfl) (by kernel_rfl)) (by kernel_rfl) (by kernel_rfl) (by kernel_rfl) (door_met os _)) ?_
  intro W base args ds gs before hval0 hW _ hsz0 hL _
  have hT := of_laid' hL
  have hval : ∀ (j : Nat) t v, Tryd.f6.params[j]? = some t → args[j]? = some v → Value.okWide Tryd.prog W .any base t v := hval0
  have hW' := hW
  obtain ⟨p, q, hA0, hV, rfl, hfz, hnd⟩ := hW
  have hA : DataW.TrodAll enc Tryd.prog W 0 (fun _ => true) true Tryd.f6.params.toList args.toList ds p := hA0
  rw [Tryd.params6] at hA hval
  obtain ⟨v0, vs0, d0, ds0, p0, q0, hargs, rfl, rfl, h0, r0⟩ := trodAll_cons hA
  obtain ⟨v1, vs1, d1, ds1, p1, q1, rfl, rfl, rfl, h1, r1⟩ := trodAll_cons r0
  obtain ⟨v2, vs2, d2, ds2, p2, q2, rfl, rfl, rfl, h2, r2⟩ := trodAll_cons r1
  obtain ⟨v3, vs3, d3, ds3, p3, q3, rfl, rfl, rfl, h3, r3⟩ := trodAll_cons r2
  obtain ⟨v4, vs4, d4, ds4, p4, q4, rfl, rfl, rfl, h4, r4⟩ := trodAll_cons r3
  obtain ⟨v5, vs5, d5, ds5, p5, q5, rfl, rfl, rfl, h5, r5⟩ := trodAll_cons r4
  obtain ⟨v6, vs6, d6, ds6, p6, q6, rfl, rfl, rfl, h6, r6⟩ := trodAll_cons r5
  obtain ⟨rfl, rfl, rfl⟩ := trodAll_nil r6
  obtain rfl : args = #[v0, v1, v2, v3, v4, v5, v6] := by cases args; simp_all
  obtain ⟨rfl, rfl⟩ := trodVars_none hV
  have hsz : (DataW.weightsEach Tryd.prog [22, 22, 22, 38, 38, 5, 23] [d0, d1, d2, d3, d4, d5, d6]).all (· ≤ reachBytes) = true := hsz0
  obtain ⟨a0, rfl, rfl, rfl, w0⟩ := open_int Tryd.underlying22 (hval 0 22 v0 rfl rfl) h0
  obtain ⟨a1, rfl, rfl, rfl, w1⟩ := open_int Tryd.underlying22 (hval 1 22 v1 rfl rfl) h1
  obtain ⟨a2, rfl, rfl, rfl, w2⟩ := open_int Tryd.underlying22 (hval 2 22 v2 rfl rfl) h2
  obtain ⟨a3, rfl, rfl, rfl, w3⟩ := open_int Tryd.underlying38 (hval 3 38 v3 rfl rfl) h3
  obtain ⟨a4, rfl, rfl, rfl, w4⟩ := open_int Tryd.underlying38 (hval 4 38 v4 rfl rfl) h4
  obtain ⟨a5, rfl, rfl, rfl, w5⟩ := open_int Tryd.underlying5 (hval 5 5 v5 rfl rfl) h5
  obtain ⟨a6, len6, cap6, rfl⟩ := okWide_slice Tryd.underlying23 (hval 6 23 v6 rfl rfl)
  have k6 := h6
  have lt6 : ∀ x ∈ p6, x.block < W.heap.size := by obtain ⟨m, hm⟩ := k6; exact DataW.trod_lt m _ _ _ hm
  obtain ⟨z6, w6, n6, m6, o6, f6, b6, e6⟩ : ∃ zs, Ints .u8 W a6 zs ∧ zs.length = len6 ∧ len6 ≤ cap6 ∧ cap6 ≤ maxLen ∧ (∀ x ∈ zs, (Lit.int .u8 x).wf = true) ∧ cap6 * 1 ≤ 140737488351232 ∧ (a6 = none → len6 = 0 ∧ cap6 = 0) := by
    obtain ⟨fuel, hf⟩ := h6
    rcases open_ints Tryd.underlying23 Tryd.underlying5 (by kernel_rfl) hf with ⟨hcs, hx⟩ | ⟨x, l, c, zs, hcs, _, hl, hm, hz, hx, hcell, hwz⟩
    · simp [Value.cells] at hcs
      obtain ⟨rfl, rfl, rfl⟩ := hcs
      exact ⟨[], Row.nil _ _, rfl, Nat.le_refl _, Nat.zero_le _, (fun _ h => by cases h), by decide, fun _ => ⟨rfl, rfl⟩⟩
    · simp [Value.cells] at hcs
      obtain ⟨rfl, rfl, rfl⟩ := hcs
      exact ⟨zs.take len6, ints_of hl (by simpa using hz) hcell, take_len hl (by simpa using hz), hl, hm, (fun x hx => hwz x (List.mem_of_mem_take hx)), by
          have hd := congrArg Prod.fst hx
          dsimp only at hd
          have := sized_slice hsz (j := 6) (t := 23) (e := 5) (elems := lits .u8 (zs.take len6)) (spare := lits .u8 (zs.drop len6)) rfl (by rw [← hd]; rfl) Tryd.underlying23
          rw [show Tryd.prog.bytesOf 5 = 1 by kernel_rfl] at this
          simp only [lits, List.length_map, List.length_take, List.length_drop, reachBytes] at this
          have hz2 : zs.length = cap6 := (by simpa using hz)
          omega, fun e => by cases e⟩
  clear hA0 hval0
  refine (walk a0 a1 a2 a3 a4 a5 a6 len6 cap6 z6 W w0 w1 w2 w3 w4 w5 w6 n6 m6 o6 f6 b6 e6 hT).mono fun e W' ⟨he, bel⟩ => ?_
  subst he
  exact ⟨_, rfl, _, _, _, [], _, [], hW', trodAll_mk1 (shut_bool Tryd.underlying4 _), (trodAll_cons_mk (shut_int Tryd.underlying22 w0) (trodAll_cons_mk (shut_int Tryd.underlying22 w1) (trodAll_cons_mk (shut_int Tryd.underlying22 w2) (trodAll_cons_mk (shut_int Tryd.underlying38 w3) (trodAll_cons_mk (shut_int Tryd.underlying38 w4) (trodAll_cons_mk (shut_int Tryd.underlying5 w5) (trodAll_cons_mk (Below.trod laidOut (by kernel_rfl) (of_decide_eq_true (by kernel_rfl)) k6 bel lt6) trodAll_mk0))))))), rfl, bel.frame _, fun h => by cases h⟩

theorem over : Rows.headOneRow.holds Tryd.pinned (OpenSpec.ofChange Rows.headOneSpec) :=
  OpenClaim.holds_of_wide 6 Tryd.f6 rfl rfl rfl rfl rfl rfl rfl ⟨rfl, rfl, rfl, rfl, rfl⟩ rfl rfl rfl rfl rfl (by kernel_rfl) Tryd.func6 (by kernel_rfl)
    (of_decide_eq_true (by kernel_rfl)) (by unfold Func.isWrapper; first | (rw [if_pos (by decide +kernel)]; kernel_rfl) | (rw [if_neg (by decide +kernel)]; exact ⟨rfl, rfl⟩))
    (fun os started H enc _ => lifted os started H enc)

/-- The given statement: the row, its listed variables tied to the program's text. -/
theorem proved : Rows.HeadOneCardSaid :=
  Claim7.holds_tied_plain_at .later [] [.data, .data] true (true, "82c1dd0bc4a5d0368e4cdb54e1d26816b9ccbd17d7dd11f8b3719448e7ea3cf2") false
    over (fun _ h => by cases h) (by kernel_rfl) (fun _ h => by cases h) headOne_row_tie rfl ⟨rfl, rfl⟩ (by kernel_rfl) rfl
    (fun f fn hf hfn => by
      obtain rfl : f = 6 := Option.some.inj ((show Tryd.prog.funcNamed "splittally/splittallylaw8.HeadOne" = some 6 by kernel_rfl).symm.trans hf) |>.symm
      obtain rfl : fn = Tryd.f6 := (Option.some.inj (Tryd.func6.symm.trans hfn)).symm
      exact ⟨by kernel_rfl, fun j t ht => by
        rw [Tryd.params6] at ht
        have hm : t ∈ [22, 22, 22, 38, 38, 5, 23] := by simpa using Array.mem_of_getElem? ht
        have hall : ([22, 22, 22, 38, 38, 5, 23].all fun u => !Tryd.prog.wantsStandIn u) = true := by kernel_rfl
        exact (show Tryd.prog.wantsStandIn t = false by simpa using List.all_eq_true.1 hall t hm)⟩)
    (by kernel_rfl)
#print axioms proved
end Go.Proofs.YtbdafmomjboaaaaDoor.headOne
