/-
  A control is behind any acknowledged bytes, and at first, what the document says. No conditions.
-/
import Derived.Test.YtnnpklnhdfpnjaaFlat
import Derived.Test.YtnnpklnhdfpnjaaConfRow
import Derived.Test.YtnnpklnhdfpnjaaRows
import Derived.Test.YtnnpklnhdfpnjaaRow
import Derived.WalkKit
import Derived.ProofKit
import Derived.OpenShut
import Derived.ShutString
import Derived.ChangeOld
import Derived.Below
import Derived.Test.YtnnpklnhdfpnjaaControlEnd
namespace Go.Proofs.Ytnnpklnhdfpnjaa.controlAcks
open Go.ChangeShapes Go.WideShapes Go.ChangeAt Go.RowKit
open Go.ChangeMaps (open_string shut_string)
open Go.Proofs.Ytnnpklnhdfpnjaa.Base Go.Proofs.Ytnnpklnhdfpnjaa.Conf Go.Proofs.Ytnnpklnhdfpnjaa.ConfPlain
set_option linter.unusedVariables false
set_option linter.unusedSimpArgs false

theorem own : ownKnob Try.prog.godebug = none := by kernel_rfl
theorem laidOut : laidOutB Try.prog = true := by kernel_rfl

open Go.Proofs.Ytnnpklnhdfpnjaa.Control Go.Proofs.Ytnnpklnhdfpnjaa.ControlPlain Go.Proofs.Ytnnpklnhdfpnjaa.CubicPlain Go.Proofs.Ytnnpklnhdfpnjaa.RenoPlain Go.Proofs.Ytnnpklnhdfpnjaa.RoundPlain Go.Proofs.Ytnnpklnhdfpnjaa.ConfPlain Go.Proofs.Ytnnpklnhdfpnjaa.Conf Go.Proofs.Ytnnpklnhdfpnjaa.Hop
set_option maxHeartbeats 8000000 in
set_option maxRecDepth 20000 in
theorem walk (x0 : C) (a1 : Option Addr) (len1 cap1 : Nat) (z1 : List Int) (c2_0 : Int) (c2_1 : Int) (c2_2 : Int) (c2_3 : Int) (c2_4 : Int) (c2_5 : Int) (c2_6 : Int) (c2_7 : Int) (c2_8 : Int) (a3 : Int) (a4 : Int) (a5 : Int) (w : World) (f0 : Rng x0) (w1 : Ints .u32 w a1 z1) (n1 : z1.length = len1) (m1 : len1 ≤ cap1) (o1 : cap1 ≤ maxLen) (f1 : ∀ x ∈ z1, (Lit.int .u32 x).wf = true) (w2_0 : (Lit.int .u64 c2_0).wf = true) (w2_1 : (Lit.int .u64 c2_1).wf = true) (w2_2 : (Lit.int .u64 c2_2).wf = true) (w2_3 : (Lit.int .u64 c2_3).wf = true) (w2_4 : (Lit.int .u64 c2_4).wf = true) (w2_5 : (Lit.int .u64 c2_5).wf = true) (w2_6 : (Lit.int .u64 c2_6).wf = true) (w2_7 : (Lit.int .u64 c2_7).wf = true) (w2_8 : (Lit.int .u64 c2_8).wf = true) (w3 : (Lit.int .u64 a3).wf = true) (w4 : (Lit.int .u64 a4).wf = true) (w5 : (Lit.int .u64 a5).wf = true) :
    Calls Try.prog 3 #[.agg #[.int .i64 x0.bits, .int .u64 x0.one, .int .i64 x0.ring, .int .u64 x0.limit, .int .i64 x0.room, .int .u64 x0.mss, .int .u64 x0.initial, .int .u64 x0.least, .int .u64 x0.most, .int .i64 x0.algo, .int .u64 x0.first, .int .u64 x0.grain, .int .u64 x0.cap, .int .u64 x0.burst, .int .u64 x0.slowest, .int .i64 x0.chal, .int .u64 x0.every], .slice a1 len1 cap1, .agg #[.int .u64 c2_0, .int .u64 c2_1, .int .u64 c2_2, .int .u64 c2_3, .int .u64 c2_4, .int .u64 c2_5, .int .u64 c2_6, .int .u64 c2_7, .int .u64 c2_8], .int .u64 a3, .int .u64 a4, .int .u64 a5] w fun e w' => e = .returned (.bool true) ∧ Below w.heap.size w w' := by
  have hb : ∀ x ∈ z1, 0 ≤ x ∧ x ≤ 4294967295 := fun x hx => Base.u32_of (f1 x hx)
  have hs : KFit ⟨⟨c2_0, c2_1, c2_2, c2_3, c2_4, c2_5, c2_6⟩, ⟨c2_7, c2_8⟩⟩ := ⟨⟨Base.u64_of w2_0, Base.u64_of w2_1, Base.u64_of w2_2, Base.u64_of w2_3, Base.u64_of w2_4, Base.u64_of w2_5, Base.u64_of w2_6⟩, ⟨(Base.u64_of w2_7).1, (Base.u64_of w2_7).2, (Base.u64_of w2_8).1, (Base.u64_of w2_8).2⟩⟩
  have hcx := rng_cfit f0
  have ha : U a3 := Base.u64_of w3
  have hn : U a4 := Base.u64_of w4
  have hsm : U a5 := Base.u64_of w5
  have CA := fun V => alive_control V
  go_enter Try.func3, Try.ntmps3
  go_upto_region 1 with fail
  refine at_any ?_
  intro W hW
  obtain ⟨cB, sB, hL⟩ : Blk W w.heap.size (cc x0) 24 ∧ Blk W (w.heap.size + 1) (kc ⟨⟨c2_0, c2_1, c2_2, c2_3, c2_4, c2_5, c2_6⟩, ⟨c2_7, c2_8⟩⟩) 31 ∧ Below w.heap.size w W := by
    have h0 := Blk.new (w) #[.int .i64 x0.bits, .int .u64 x0.one, .int .i64 x0.ring, .int .u64 x0.limit, .int .i64 x0.room, .int .u64 x0.mss, .int .u64 x0.initial, .int .u64 x0.least, .int .u64 x0.most, .int .i64 x0.algo, .int .u64 x0.first, .int .u64 x0.grain, .int .u64 x0.cap, .int .u64 x0.burst, .int .u64 x0.slowest, .int .i64 x0.chal, .int .u64 x0.every] 24
    have h1 := Blk.new (World.alloc (w) (.cells #[.int .i64 x0.bits, .int .u64 x0.one, .int .i64 x0.ring, .int .u64 x0.limit, .int .i64 x0.room, .int .u64 x0.mss, .int .u64 x0.initial, .int .u64 x0.least, .int .u64 x0.most, .int .i64 x0.algo, .int .u64 x0.first, .int .u64 x0.grain, .int .u64 x0.cap, .int .u64 x0.burst, .int .u64 x0.slowest, .int .i64 x0.chal, .int .u64 x0.every] 24)) #[.int .u64 c2_0, .int .u64 c2_1, .int .u64 c2_2, .int .u64 c2_3, .int .u64 c2_4, .int .u64 c2_5, .int .u64 c2_6, .int .u64 c2_7, .int .u64 c2_8] 31
    simp only [World.size_alloc] at h1
    subst hW
    exact ⟨(h0.alloc _), h1, (((Below.refl _ _).alloc (Nat.le_refl _) _).alloc (by simp only [World.size_alloc]; omega) _)⟩
  clear hW
  generalize hb_sB : w.heap.size + 1 = b_sB at *
  have lt_cB := cB.lt
  have lt_sB := sB.lt
  have A1 := fun V => ack_any x0 hcx ⟨⟨c2_0, c2_1, c2_2, c2_3, c2_4, c2_5, c2_6⟩, ⟨c2_7, c2_8⟩⟩ hs a3 a4 a5 ha hn hsm V
  have A2 := fun V => ref_ack x0 hcx ⟨⟨c2_0, c2_1, c2_2, c2_3, c2_4, c2_5, c2_6⟩, ⟨c2_7, c2_8⟩⟩ hs a3 a4 a5 ha hn hsm V
  have A3 := fun (d : C) hcd V => ack_any d hcd ⟨⟨c2_0, c2_1, c2_2, c2_3, c2_4, c2_5, c2_6⟩, ⟨c2_7, c2_8⟩⟩ hs a3 a4 a5 ha hn hsm V
  have A4 := fun (d : C) hcd V => ref_ack d hcd ⟨⟨c2_0, c2_1, c2_2, c2_3, c2_4, c2_5, c2_6⟩, ⟨c2_7, c2_8⟩⟩ hs a3 a4 a5 ha hn hsm V
  have A5 := fun V => start_any x0 hcx V
  have A6 := fun V => ref_start x0 hcx V
  clear hs
  generalize (⟨⟨c2_0, c2_1, c2_2, c2_3, c2_4, c2_5, c2_6⟩, ⟨c2_7, c2_8⟩⟩ : Kc) = s0 at *
  have CF := fun V hz => conf_is a1 len1 cap1 z1 V n1 (by omega) hb hz
  go_upto_region 2 with (go_at_call 7; refine (CF _ (Row.below w1 hL)).mono ?_; rintro x' y0 ⟨d, rfl, hm, -, L0⟩; replace cB := cB.below L0 lt_cB; replace sB := sB.below L0 lt_sB; replace hL := Base.next hL L0; replace lt_cB := cB.lt; replace lt_sB := sB.lt)
  refine at_any ?_
  intro X hX
  obtain ⟨dB', cB', sB', hL'⟩ : Blk X y0.heap.size (cc d) 24 ∧ Blk X w.heap.size (cc x0) 24 ∧ Blk X b_sB (kc s0) 31 ∧ Below w.heap.size w X := by
    subst hX
    exact ⟨Blk.new _ _ _, cB.alloc _, sB.alloc _, hL.alloc hL.size _⟩
  have hgt_dB_cB : w.heap.size < y0.heap.size := cB.lt
  have hgt_dB_sB : b_sB < y0.heap.size := sB.lt
  have hge_dB : w.heap.size ≤ y0.heap.size := hL.size
  clear hX cB sB hL
  clear lt_cB lt_sB
  generalize y0.heap.size = b_dB at *
  have dB := dB'
  have cB := cB'
  have sB := sB'
  have hL := hL'
  clear dB' cB' sB' hL'
  have lt_dB := dB.lt
  have lt_cB := cB.lt
  have lt_sB := sB.lt
  clear CF
  go_upto_region 4 with (go_at_call 8; refine (CA _).mono ?_; rintro x' y1 ⟨rfl, L1⟩; replace dB := dB.below L1 lt_dB; replace cB := cB.below L1 lt_cB; replace sB := sB.below L1 lt_sB; replace hL := Base.next hL L1; replace lt_dB := dB.lt; replace lt_cB := cB.lt; replace lt_sB := sB.lt)
  refine at_any ?_
  intro Y hY
  obtain ⟨dB', cB', sB', hL'⟩ : Blk Y b_dB (cc d) 24 ∧ Blk Y w.heap.size (cc x0) 24 ∧ Blk Y b_sB (kc s0) 31 ∧ Below w.heap.size w Y := by
    subst hY
    exact ⟨dB, cB, sB, hL⟩
  clear hY dB cB sB hL
  clear lt_dB lt_cB lt_sB
  have hcd := made_cfit hm
  replace A3 := A3 d hcd
  replace A4 := A4 d hcd
  have A7 := fun V => start_any d hcd V
  have A8 := fun V => ref_start d hcd V
  generalize ackK x0 s0 a3 a4 a5 = v1 at *
  generalize ackK d s0 a3 a4 a5 = v2 at *
  generalize startK x0 = v3 at *
  generalize startK d = v4 at *
  replace A1 : ∀ V, Calls Try.prog 9 #[.agg (cc x0), .agg (kc s0), .int .u64 a3, .int .u64 a4, .int .u64 a5] V (CcPost V v1) := A1
  replace A2 : ∀ V, Calls Try.prog 10 #[.agg (cc x0), .agg (kc s0), .int .u64 a3, .int .u64 a4, .int .u64 a5] V (CcPost V v1) := A2
  replace A3 : ∀ V, Calls Try.prog 9 #[.agg (cc d), .agg (kc s0), .int .u64 a3, .int .u64 a4, .int .u64 a5] V (CcPost V v2) := A3
  replace A4 : ∀ V, Calls Try.prog 10 #[.agg (cc d), .agg (kc s0), .int .u64 a3, .int .u64 a4, .int .u64 a5] V (CcPost V v2) := A4
  replace A5 : ∀ V, Calls Try.prog 11 #[.agg (cc x0)] V (CcPost V v3) := A5
  replace A6 : ∀ V, Calls Try.prog 12 #[.agg (cc x0)] V (CcPost V v3) := A6
  replace A7 : ∀ V, Calls Try.prog 11 #[.agg (cc d)] V (CcPost V v4) := A7
  replace A8 : ∀ V, Calls Try.prog 12 #[.agg (cc d)] V (CcPost V v4) := A8
  unfold CcPost at A1 A2 A3 A4 A5 A6 A7 A8
  refine wp_region_in (Lt Y) (Lt.drew Y) (by kernel_rfl) (by kernel_rfl) ?_
  repeat (first
    | go_big_quiet_skip
    | (go_big_quiet_want; first
      | (refine quiet_row (x := .tmp 6) (cs := (cc x0)) (in_some _) rfl (in_blk cB') Try.underlying24 rfl (by kernel_rfl) ?_; go_big_quiet_op; go_big_quiet_on)
      | (refine quiet_row (x := .tmp 13) (cs := (cc d)) (in_some _) rfl (in_blk dB') Try.underlying24 rfl (by kernel_rfl) ?_; go_big_quiet_op; go_big_quiet_on)
      | (refine quiet_row (x := .tmp 8) (cs := (kc s0)) (in_some _) rfl (in_blk sB') Try.underlying31 rfl (by kernel_rfl) ?_; go_big_quiet_op; go_big_quiet_on)
      | (refine quiet_val (v := .bool true) (in_some _) (fun w _ => eq_kc _ _ rfl rfl rfl) ?_; go_big_quiet_op; go_big_quiet_on)
      | (go_big_quiet_op; first | go_big_quiet_on | go_big_quiet_call (first
        | (go_at_call 9; (with_reducible refine in_below (v := .agg (kc v1)) ?_); with_reducible exact A1 _)
        | (go_at_call 10; (with_reducible refine in_below (v := .agg (kc v1)) ?_); with_reducible exact A2 _)
        | (go_at_call 9; (with_reducible refine in_below (v := .agg (kc v2)) ?_); with_reducible exact A3 _)
        | (go_at_call 10; (with_reducible refine in_below (v := .agg (kc v2)) ?_); with_reducible exact A4 _)
        | (go_at_call 11; (with_reducible refine in_below (v := .agg (kc v3)) ?_); with_reducible exact A5 _)
        | (go_at_call 12; (with_reducible refine in_below (v := .agg (kc v3)) ?_); with_reducible exact A6 _)
        | (go_at_call 11; (with_reducible refine in_below (v := .agg (kc v4)) ?_); with_reducible exact A7 _)
        | (go_at_call 12; (with_reducible refine in_below (v := .agg (kc v4)) ?_); with_reducible exact A8 _)))))
  refine wpQuiet_nil ?_
  rintro u2 ⟨⟨_, hw2⟩, rfl⟩
  have hw2 : Below Y.heap.size Y u2 := hw2
  go_wp2
  go_ret
  exact ⟨rfl, Base.next hL' hw2⟩

set_option maxRecDepth 100000 in
theorem lifted (os : Os) (started : os.Started) (H : Type) (enc : TypeId × Value → H) :
    ReturnsInHanded {} Try.checked os 3 .any (Rows.controlAcksSpec.pre6 enc Try.prog Try.f3 Rows.controlAcksRow.domain false) (Rows.controlAcksSpec.post enc Try.prog Try.f3 false true false false) := by
  refine returnsInHanded_of_change (C := Try.checked) own started (by kernel_rfl) Try.func3
    (ChangeSpec.witness6 (enc := enc) (C := Try.checked) false ⟨#[], #[.agg #[.int .i64 0, .int .u64 0, .int .i64 0, .int .u64 0, .int .i64 0, .int .u64 0, .int .u64 0, .int .u64 0, .int .u64 0, .int .i64 0, .int .u64 0, .int .u64 0, .int .u64 0, .int .u64 0, .int .u64 0, .int .i64 0, .int .u64 0], .slice none 0 0, .agg #[.int .u64 0, .int .u64 0, .int .u64 0, .int .u64 0, .int .u64 0, .int .u64 0, .int .u64 0, .int .u64 0, .int .u64 0], .int .u64 0, .int .u64 0, .int .u64 0], []⟩ 8 (by kernel_rfl) (by kernel_rfl) (by kernel_rfl) (by kernel_rfl)) ?_
  intro W base args ds gs before hval0 hW hcnd _
  have hval : ∀ (j : Nat) t v, Try.f3.params[j]? = some t → args[j]? = some v → Value.okWide Try.prog W .any base t v := hval0
  have hW' := hW
  obtain ⟨p, q, hA0, hV, rfl, hfz, hnd⟩ := hW
  have hA : DataW.TrodAll enc Try.prog W 0 (fun _ => true) true Try.f3.params.toList args.toList ds p := hA0
  rw [Try.params3] at hA hval
  obtain ⟨v0, vs0, d0, ds0, p0, q0, hargs, rfl, rfl, h0, r0⟩ := trodAll_cons hA
  obtain ⟨v1, vs1, d1, ds1, p1, q1, rfl, rfl, rfl, h1, r1⟩ := trodAll_cons r0
  obtain ⟨v2, vs2, d2, ds2, p2, q2, rfl, rfl, rfl, h2, r2⟩ := trodAll_cons r1
  obtain ⟨v3, vs3, d3, ds3, p3, q3, rfl, rfl, rfl, h3, r3⟩ := trodAll_cons r2
  obtain ⟨v4, vs4, d4, ds4, p4, q4, rfl, rfl, rfl, h4, r4⟩ := trodAll_cons r3
  obtain ⟨v5, vs5, d5, ds5, p5, q5, rfl, rfl, rfl, h5, r5⟩ := trodAll_cons r4
  obtain ⟨rfl, rfl, rfl⟩ := trodAll_nil r5
  obtain rfl : args = #[v0, v1, v2, v3, v4, v5] := by cases args; simp_all
  obtain ⟨rfl, rfl⟩ := trodVars_none hV
  have k0 := h0
  have lt0 : ∀ x ∈ p0, x.block < W.heap.size := by obtain ⟨m, hm⟩ := k0; exact DataW.trod_lt m _ _ _ hm
  obtain ⟨x0, rfl, f0⟩ := open_config Try.underlying24 (by kernel_rfl) (by kernel_rfl) Try.underlying3 Try.underlying22 Try.underlying3 Try.underlying22 Try.underlying3 Try.underlying22 Try.underlying22 Try.underlying22 Try.underlying22 Try.underlying3 Try.underlying22 Try.underlying22 Try.underlying22 Try.underlying22 Try.underlying22 Try.underlying3 Try.underlying22 (hval 0 24 v0 rfl rfl) h0
  obtain ⟨a1, len1, cap1, rfl⟩ := okWide_slice Try.underlying25 (hval 1 25 v1 rfl rfl)
  have k1 := h1
  have lt1 : ∀ x ∈ p1, x.block < W.heap.size := by obtain ⟨m, hm⟩ := k1; exact DataW.trod_lt m _ _ _ hm
  obtain ⟨z1, w1, n1, m1, o1, f1⟩ : ∃ zs, Ints .u32 W a1 zs ∧ zs.length = len1 ∧ len1 ≤ cap1 ∧ cap1 ≤ maxLen ∧ (∀ x ∈ zs, (Lit.int .u32 x).wf = true) := by
    obtain ⟨fuel, hf⟩ := h1
    rcases open_ints Try.underlying25 Try.underlying49 (by kernel_rfl) hf with ⟨hcs, hx⟩ | ⟨x, l, c, zs, hcs, _, hl, hm, hz, hx, hcell, hwz⟩
    · simp [Value.cells] at hcs
      obtain ⟨rfl, rfl, rfl⟩ := hcs
      exact ⟨[], Row.nil _ _, rfl, Nat.le_refl _, Nat.zero_le _, (fun _ h => by cases h)⟩
    · simp [Value.cells] at hcs
      obtain ⟨rfl, rfl, rfl⟩ := hcs
      exact ⟨zs.take len1, ints_of hl (by simpa using hz) hcell, take_len hl (by simpa using hz), hl, hm, (fun x hx => hwz x (List.mem_of_mem_take hx))⟩
  have k2 := h2
  have lt2 : ∀ x ∈ p2, x.block < W.heap.size := by obtain ⟨m, hm⟩ := k2; exact DataW.trod_lt m _ _ _ hm
  obtain ⟨cs2, rfl, fl2⟩ := open_flat Try.underlying31 (show leaf Try.prog 6 31 = some [.int .u64, .int .u64, .int .u64, .int .u64, .int .u64, .int .u64, .int .u64, .int .u64, .int .u64] by kernel_rfl) (hval 2 31 v2 rfl rfl) h2
  obtain ⟨c2_0, us2, rfl, w2_0, fl2⟩ := fl2.int_
  obtain ⟨c2_1, us2, rfl, w2_1, fl2⟩ := fl2.int_
  obtain ⟨c2_2, us2, rfl, w2_2, fl2⟩ := fl2.int_
  obtain ⟨c2_3, us2, rfl, w2_3, fl2⟩ := fl2.int_
  obtain ⟨c2_4, us2, rfl, w2_4, fl2⟩ := fl2.int_
  obtain ⟨c2_5, us2, rfl, w2_5, fl2⟩ := fl2.int_
  obtain ⟨c2_6, us2, rfl, w2_6, fl2⟩ := fl2.int_
  obtain ⟨c2_7, us2, rfl, w2_7, fl2⟩ := fl2.int_
  obtain ⟨c2_8, us2, rfl, w2_8, fl2⟩ := fl2.int_
  obtain rfl := fl2.nil_
  obtain ⟨a3, rfl, rfl, rfl, w3⟩ := open_int Try.underlying22 (hval 3 22 v3 rfl rfl) h3
  obtain ⟨a4, rfl, rfl, rfl, w4⟩ := open_int Try.underlying22 (hval 4 22 v4 rfl rfl) h4
  obtain ⟨a5, rfl, rfl, rfl, w5⟩ := open_int Try.underlying22 (hval 5 22 v5 rfl rfl) h5
  clear hA0 hval0
  refine (walk x0 a1 len1 cap1 z1 c2_0 c2_1 c2_2 c2_3 c2_4 c2_5 c2_6 c2_7 c2_8 a3 a4 a5 W f0 w1 n1 m1 o1 f1 w2_0 w2_1 w2_2 w2_3 w2_4 w2_5 w2_6 w2_7 w2_8 w3 w4 w5).mono fun e W' ⟨he, bel⟩ => ?_
  subst he
  exact ⟨_, rfl, _, _, _, [], _, [], hW', trodAll_mk1 (shut_bool Try.underlying4 _), (trodAll_cons_mk (Below.trod laidOut (by kernel_rfl) (of_decide_eq_true (by kernel_rfl)) k0 bel lt0) (trodAll_cons_mk (Below.trod laidOut (by kernel_rfl) (of_decide_eq_true (by kernel_rfl)) k1 bel lt1) (trodAll_cons_mk (Below.trod laidOut (by kernel_rfl) (of_decide_eq_true (by kernel_rfl)) k2 bel lt2) (trodAll_cons_mk (shut_int Try.underlying22 w3) (trodAll_cons_mk (shut_int Try.underlying22 w4) (trodAll_cons_mk (shut_int Try.underlying22 w5) trodAll_mk0)))))), rfl, bel.frame _, fun h => by cases h⟩

theorem over : Rows.controlAcksRow.holds Try.pinned (OpenSpec.ofChange Rows.controlAcksSpec) :=
  OpenClaim.holds_of_wide 3 Try.f3 rfl rfl rfl rfl rfl rfl rfl ⟨rfl, rfl, rfl, rfl, rfl⟩ rfl rfl rfl rfl rfl (by kernel_rfl) Try.func3 (by kernel_rfl)
    (of_decide_eq_true (by kernel_rfl)) (by unfold Func.isWrapper; first | (rw [if_pos (by decide +kernel)]; kernel_rfl) | (rw [if_neg (by decide +kernel)]; exact ⟨rfl, rfl⟩))
    (fun os started H enc _ => lifted os started H enc)

/-- The given statement. -/
theorem proved : Rows.ControlAcksSaid :=
  over
#print axioms proved
end Go.Proofs.Ytnnpklnhdfpnjaa.controlAcks
