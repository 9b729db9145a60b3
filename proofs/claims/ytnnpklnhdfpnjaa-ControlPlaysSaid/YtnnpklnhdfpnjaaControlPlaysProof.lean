/-
  Whatever happens a window is from the least to the most, never above what it began with and all that was acknowledged, and a round has one cut. No conditions.
-/
import Derived.Test.YtnnpklnhdfpnjaaFlat
import Derived.Test.YtnnpklnhdfpnjaaRows
import Derived.Test.YtnnpklnhdfpnjaaRow
import Derived.WalkKit
import Derived.ProofKit
import Derived.OpenShut
import Derived.ShutString
import Derived.ChangeOld
import Derived.Below
import Derived.Test.YtnnpklnhdfpnjaaControlEnd
import Derived.Test.YtnnpklnhdfpnjaaFlat
import Derived.Test.YtnnpklnhdfpnjaaQuiet
import Derived.Deep.CutBlock
import Derived.Deep.DeepCutAuto
namespace Go.Proofs.Ytnnpklnhdfpnjaa.controlPlays
open Go.ChangeShapes Go.WideShapes Go.ChangeAt Go.RowKit
open Go.ChangeMaps (open_string shut_string)
open Go.Proofs.Ytnnpklnhdfpnjaa.Base
set_option linter.unusedVariables false
set_option linter.unusedSimpArgs false

theorem own : ownKnob Try.prog.godebug = none := by kernel_rfl
theorem laidOut : laidOutB Try.prog = true := by kernel_rfl

open Go.Proofs.Ytnnpklnhdfpnjaa.Control Go.Proofs.Ytnnpklnhdfpnjaa.ControlPlain Go.Proofs.Ytnnpklnhdfpnjaa.CubicPlain Go.Proofs.Ytnnpklnhdfpnjaa.RenoPlain Go.Proofs.Ytnnpklnhdfpnjaa.RoundPlain Go.Proofs.Ytnnpklnhdfpnjaa.ConfPlain Go.Proofs.Ytnnpklnhdfpnjaa.Conf Go.Proofs.Ytnnpklnhdfpnjaa.Hop
set_option maxHeartbeats 8000000 in
set_option maxRecDepth 20000 in
theorem walk (a0 : Option Addr) (len0 cap0 : Nat) (z0 : List Int) (a1 : Option Addr) (len1 cap1 : Nat) (z1 : List (List Value)) (w : World) (w0 : Ints .u32 w a0 z0) (n0 : z0.length = len0) (m0 : len0 ≤ cap0) (o0 : cap0 ≤ maxLen) (f0 : ∀ x ∈ z0, (Lit.int .u32 x).wf = true) (w1 : Recs w a1 [.int .u8, .int .u16, .int .u16, .int .u64] z1) (n1 : z1.length = len1) (m1 : len1 ≤ cap1) (o1 : cap1 ≤ maxLen) :
    Calls Try.prog 5 #[.slice a0 len0 cap0, .slice a1 len1 cap1] w fun e w' => e = .returned (.bool true) ∧ Below w.heap.size w w' := by
  subst n1
  have hb : ∀ x ∈ z0, 0 ≤ x ∧ x ≤ 4294967295 := fun x hx => Base.u32_of (f0 x hx)
  have CA := fun V => alive_control V
  have CF := fun V hz => conf_is a0 len0 cap0 z0 V n0 (by omega) hb hz
  have hL : Below w.heap.size w w := Below.refl _ _
  go_enter Try.func5, Try.ntmps5
  go_upto_region 2 with (go_at_call 7; refine (CF _ (Row.below w0 hL)).mono ?_; rintro x' y0 ⟨c, rfl, hm, -, L0⟩; replace hL := Base.next hL L0)
  refine Base.at_any ?_
  intro X hX
  obtain ⟨cB, hL'⟩ : Blk X y0.heap.size (cc c) 24 ∧ Below w.heap.size w X := by
    subst hX
    exact ⟨Blk.new _ _ _, hL.alloc hL.size _⟩
  have hge_cB : w.heap.size ≤ y0.heap.size := by have h1 := hL.size; have h2 := L0.size; omega
  clear hX hL L0 CF
  have hL := hL'
  clear hL'
  generalize y0.heap.size = b_cB at *
  have hcw := cw_made hm (made_cfit hm)
  have hfi : 1 ≤ c.first ∧ c.first ≤ 200000 := by unfold Made at hm; omega
  by_cases h300 : (300 : Int) < (z1.length : Int)
  · go_wp2_with (first
      | (go_at_call 8; (with_reducible refine (CA X).mono ?_); rintro e y1 ⟨rfl, L1⟩)
      | (go_at_call 8; (with_reducible refine (CA y1).mono ?_); rintro e y2 ⟨rfl, L2⟩))
    all_goals go_ret
    all_goals exact ⟨rfl, Base.next (Base.next hL L1) L2⟩
  · go_upto_region 4 with (go_at_call 8; (with_reducible refine (CA X).mono ?_); rintro e y1 ⟨rfl, L1⟩; replace cB := cB.below L1 cB.lt; replace hL := Base.next hL L1)
    have CS := fun V => start_any c hcw.fit V
    have P0 := pl_start hcw
    have d0 : (startK c).d.cuts = 0 := by unfold startK; split <;> rfl
    unfold CcPost at CS
    generalize startK c = s0 at *
    replace CS : ∀ V, Calls Try.prog 11 #[.agg (cc c)] V fun e w' => e = .returned (.agg (kc s0)) ∧ Below V.heap.size V w' := CS
    clear CA L1
    have hlc := cB.lt
    go_upto_region 5 with (first | (refine wpl_load_row (by kernel_rfl) 24 (.tmp 5) rfl b_cB rfl 24 (cc c) (0, 0) _ cB Try.underlying24 rfl (by kernel_rfl) ?_) | (go_at_call 11; (with_reducible refine (CS _).mono ?_); rintro x' y2 ⟨rfl, L2⟩; replace cB := cB.below L2 cB.lt; replace hL := Base.next hL L2) | (refine wpl_store_row rfl 31 (.tmp 6) (.tmp 26) rfl (Blk.new _ _ _) (kc s0) rfl rfl (by kernel_rfl) rfl (by simp [kc, Value.oneCell']) ?_))
    have hgt : b_cB < y2.heap.size := cB.lt
    have hge_sB : w.heap.size ≤ y2.heap.size := hL.size
    refine Base.at_any ?_
    intro Z hZ
    obtain ⟨cB', sB, hL'⟩ : Blk Z b_cB (cc c) 24 ∧ Blk Z y2.heap.size (kc s0) 31 ∧ Below w.heap.size w Z := by
      subst hZ
      exact ⟨(cB.alloc _).otherRow (show _ ≠ _ by omega) _, (Blk.new _ _ _).setRow _, below_setRow' (hL.alloc hL.size _) hge_sB⟩
    clear hZ cB hL CS L2
    have cB := cB'
    have hL := hL'
    clear cB' hL'
    have hne : b_cB ≠ y2.heap.size := by omega
    clear hgt hlc
    generalize y2.heap.size = b_sB at *
    have i6 : _ = some (Value.int .u64 c.initial) := cB.cell 6
    have hl6 := cB.lt
    go_wp2
    clear i6 hl6
    go_loopw [7, 8, 9, 10, 31] (fun vm vt vn vc vi wr => ∃ (k : Nat) (s : Kc) (M T N n : Int), k ≤ z1.length ∧ vi = .int .i64 k ∧ vm = .int .u64 M ∧ vt = .int .u64 T ∧ vn = .int .u64 N ∧ vc = .int .u64 n ∧ Pl c M s ∧ c.initial ≤ M ∧ M ≤ 630 + 65535 * k ∧ 0 ≤ T ∧ T ≤ 65535 * k ∧ 0 ≤ N ∧ N ≤ 4 * k ∧ s.d.cuts = n ∧ 0 ≤ n ∧ n ≤ k ∧ Blk wr b_cB (cc c) 24 ∧ Blk wr b_sB (kc s) 31 ∧ Below w.heap.size w wr) (fun _ _ _ _ i _ => z1.length - (intOf i).toNat)
    case atStart => exact ⟨0, s0, _, 0, 0, 0, Nat.zero_le _, rfl, rfl, rfl, rfl, rfl, P0, Int.le_refl _, by have := hcw.top; have := hcw.mst; omega, by decide, by decide, by decide, by decide, d0, by decide, by decide, cB, sB, hL⟩
    case round =>
      clear P0 d0 cB sB hL
      obtain ⟨k, s, M, T, N, n, hk, rfl, rfl, rfl, rfl, rfl, hp, hMi, hMb, T0, T1, N0, N1, hcu, n0', n1', cB, sB, hL⟩ := hrel
      by_cases hlt : k < z1.length
      · have hkI : (k : Int) < (z1.length : Int) := by omega
        obtain ⟨hf, b', off', rfl, hb', hc⟩ := w1.at_ (m := 4) rfl (by decide) hlt
        generalize z1.getD k [] = z at *
        obtain ⟨kd, us, rfl, wk, hf⟩ := hf.int_
        obtain ⟨bt, us, rfl, wb, hf⟩ := hf.int_
        obtain ⟨wt, us, rfl, ww, hf⟩ := hf.int_
        obtain ⟨pv, us, rfl, wp, hf⟩ := hf.int_
        obtain rfl := hf.nil_
        have hx0 : w.cell? ⟨b', off' + k * 4, none⟩ = some (.int .u8 kd) := hc 0 _ rfl
        have hx1 : w.cell? ⟨b', off' + k * 4 + 1, none⟩ = some (.int .u16 bt) := hc 1 _ rfl
        have hx2 : w.cell? ⟨b', off' + k * 4 + 1 + 1, none⟩ = some (.int .u16 wt) := hc 2 _ rfl
        have hx3 : w.cell? ⟨b', off' + k * 4 + 1 + 1 + 1, none⟩ = some (.int .u64 pv) := hc 3 _ rfl
        clear hc hf
        obtain ⟨kd0, kd1⟩ := Base.u8_of wk
        obtain ⟨bt0, bt1⟩ := Base.u16_of wb
        obtain ⟨wt0, wt1⟩ := Base.u16_of ww
        obtain ⟨pv0, pv1⟩ := Base.u64_of wp
        clear wk wb ww wp
        obtain ⟨K, hK, K0, K1⟩ : ∃ K, kd.tmod 6 = K ∧ 0 ≤ K ∧ K < 6 := ⟨_, rfl, by rw [Int.tmod_eq_emod_of_nonneg kd0]; omega, by rw [Int.tmod_eq_emod_of_nonneg kd0]; omega⟩
        obtain ⟨r5, h5, r50, r51⟩ : ∃ r, bt.tmod 5 = r ∧ 0 ≤ r ∧ r ≤ 4 := ⟨_, rfl, by rw [Int.tmod_eq_emod_of_nonneg bt0]; omega, by rw [Int.tmod_eq_emod_of_nonneg bt0]; omega⟩
        obtain ⟨p, hpp, p0, p1⟩ : ∃ p, pv.tmod (N + r5 + 1) = p ∧ 0 ≤ p ∧ p ≤ N + r5 := ⟨_, rfl, by rw [Int.tmod_eq_emod_of_nonneg pv0]; exact Int.emod_nonneg _ (by omega), by rw [Int.tmod_eq_emod_of_nonneg pv0]; have := Int.emod_lt_of_pos pv (show 0 < N + r5 + 1 by omega); omega⟩
        have hz1 : (N + r5 + 1 == 0) = false := by simp; omega
        have g0 := (hL.cell (p := ⟨b', off' + k * 4, none⟩) hb').trans hx0
        have g1 := (hL.cell (p := ⟨b', off' + k * 4 + 1, none⟩) hb').trans hx1
        have g2 := (hL.cell (p := ⟨b', off' + k * 4 + 1 + 1, none⟩) hb').trans hx2
        have g3 := (hL.cell (p := ⟨b', off' + k * 4 + 1 + 1 + 1, none⟩) hb').trans hx3
        have hbr : b' < wr.heap.size := Nat.lt_of_lt_of_le hb' hL.size
        have s7 : _ = some (Value.int .u64 s.d.end_) := sB.cell 7
        have hls := sB.lt
        have hlc := cB.lt
        go_upto_region 14 with fail
        clear s7 g2 g3 hz1 hx2 hx3
        obtain ⟨T2, hT2, T20, T21⟩ : ∃ x, T + wt = x ∧ 0 ≤ x ∧ x ≤ 65535 * ((k : Int) + 1) := ⟨_, rfl, by omega, by omega⟩
        obtain ⟨N2, hN2, N20, N21⟩ : ∃ x, N + r5 = x ∧ 0 ≤ x ∧ x ≤ 4 * ((k : Int) + 1) := ⟨_, rfl, by omega, by omega⟩
        rw [hT2]
        rw [hN2] at p1 ⊢
        clear hT2 hN2 hpp h5 T0 T1
        have hk300 : (k : Int) ≤ 300 := by omega
        have hMM : M ≤ 1000000000 := by omega
        have hini := hcw.ini
        have hmst := hcw.mst
        have hM0 : 0 ≤ M := by have := hcw.lst; have := hcw.m0; omega
        have hK6 : K = 0 ∨ K = 1 ∨ K = 2 ∨ K = 3 ∨ K = 4 ∨ K = 5 := by omega
        clear K0 K1
        go_upto_block 2 with fail
        go_cut [7, 14] (fun vm vo wx => ∃ (v : Kc) (M2 : Int) (lb : Bool), vm = .int .u64 M2 ∧ vo = .bool lb ∧ Pl c M2 v ∧ M ≤ M2 ∧ M2 ≤ M + 65535 ∧ (lb = true → s.d.end_ ≤ p ∧ v.d.end_ = N2 + 1 ∧ v.d.cuts = n + 1) ∧ (lb = false → v.d.cuts = n) ∧ Blk wx b_cB (cc c) 24 ∧ Blk wx b_sB (kc v) 31 ∧ Below w.heap.size w wx)
        case first =>
          rcases hK6 with rfl | rfl | rfl | rfl | rfl | rfl
          · have CK := fun V => ack_any c hcw.fit s hp.fit bt T2 c.first ⟨bt0, by omega⟩ ⟨T20, by omega⟩ ⟨by omega, by omega⟩ V
            have P' := pl_ack hcw hp hMM bt0 bt1 (now := T2) (smooth := c.first) ⟨T20, by omega⟩ ⟨by omega, by omega⟩
            have hcv : (ackK c s bt T2 c.first).d.cuts = n := by rw [← hcu]; unfold ackK; split <;> rfl
            unfold CcPost at CK
            generalize ackK c s bt T2 c.first = v at *
            replace CK : ∀ V, Calls Try.prog 9 #[.agg (cc c), .agg (kc s), .int .u64 bt, .int .u64 T2, .int .u64 c.first] V fun e w' => e = .returned (.agg (kc v)) ∧ Below V.heap.size V w' := CK
            go_upto_region 21 with fail
            clear g0 hx0
            have ex := fun u : In (Lt wr) => inCell u g1
            have ef := fun u : In (Lt wr) => inCell u (o := 10) (v := .int .u64 c.first) (cB.cell 10)
            refine wp_region_rest (C := fun w' => ∃ u : In (Lt wr), w' = u.w) 12 1 (by kernel_rfl) (by kernel_rfl) (by kernel_rfl) (by kernel_rfl) (by kernel_rfl) ⟨⟨wr.drew, Lt.drew wr⟩, rfl⟩ ?_
            simp only [List.toList_toArray, List.take_succ_cons, List.take_zero]
            go_big_quiet_want
            refine quiet_row (x := .tmp 5) (cs := (cc c)) (in_some _) rfl (in_blk cB) Try.underlying24 rfl (by kernel_rfl) ?_
            go_big_quiet_op
            go_big_quiet_on
            go_big_quiet_want
            refine quiet_row (x := .tmp 6) (cs := (kc s)) (in_some _) rfl (in_blk sB) Try.underlying31 rfl (by kernel_rfl) ?_
            go_big_quiet_op
            go_big_quiet_on
            go_big_quiet_want
            go_big_quiet_op
            go_big_quiet_on
            go_big_quiet_want
            go_big_quiet_op
            go_big_quiet_on
            go_big_quiet_want
            go_big_quiet_op
            go_big_quiet_on
            go_big_quiet_want
            go_big_quiet_op
            go_big_quiet_on
            go_big_quiet_want
            go_big_quiet_op
            go_big_quiet_on
            go_big_quiet_want
            go_big_quiet_op
            go_big_quiet_on
            go_big_quiet_want
            go_big_quiet_op
            go_big_quiet_on
            go_big_quiet_want
            go_big_quiet_op
            go_big_quiet_on
            go_big_quiet_want
            go_big_quiet_op
            go_big_quiet_on
            go_big_quiet_want
            go_big_quiet_op
            go_big_quiet_call ((go_at_call 9; (with_reducible refine in_below (v := .agg (kc v)) ?_); with_reducible exact CK _))
            refine wpQuiet_nil ?_
            rintro w5 ⟨⟨_, hw5⟩, rfl⟩
            have hw5 : Below wr.heap.size wr w5 := hw5
            clear ex ef CK g1
            replace cB := cB.below hw5 cB.lt
            replace sB := sB.below hw5 sB.lt
            replace hL := Base.next hL hw5
            refine wpAny_of_held (S := fun _ => True) _ _ _ _ ?_
            refine h2_st (i := 12) rfl (by kernel_rfl) (by kernel_rfl) (by kernel_rfl) (st_row 31 (.tmp 6) (.tmp 99) rfl (g := b_sB) (cells := kc v) (by kernel_rfl) (by kernel_rfl) sB (by kernel_rfl) rfl (by simp [kc, Value.oneCell'])) trivial ?_
            refine held_done (by kernel_rfl) ?_
            obtain ⟨V, hV⟩ : ∃ V, V = w5.setRow b_sB (kc v) := ⟨_, rfl⟩
            rw [← hV]
            obtain ⟨cB', sB', hL'⟩ : Blk V b_cB (cc c) 24 ∧ Blk V b_sB (kc v) 31 ∧ Below w.heap.size w V := by
              subst hV
              exact ⟨cB.otherRow (show _ ≠ _ by omega) _, sB.setRow _, below_setRow' hL hge_sB⟩
            clear hV cB sB hL hw5 hls hlc hbr
            have cB := cB'
            have sB := sB'
            have hL := hL'
            clear cB' sB' hL'
            have g1 := (hL.cell (p := ⟨b', off' + k * 4 + 1, none⟩) hb').trans hx1
            have hbr : b' < V.heap.size := Nat.lt_of_lt_of_le hb' hL.size
            go_wp2
            go_meet
            exact ⟨v, M + bt, false, rfl, rfl, P', by omega, by omega, (fun h => nomatch h), fun _ => hcv, cB, sB, hL⟩
          · have CK := fun V => ack_any c hcw.fit s hp.fit bt T2 c.first ⟨bt0, by omega⟩ ⟨T20, by omega⟩ ⟨by omega, by omega⟩ V
            have P' := pl_ack hcw hp hMM bt0 bt1 (now := T2) (smooth := c.first) ⟨T20, by omega⟩ ⟨by omega, by omega⟩
            have hcv : (ackK c s bt T2 c.first).d.cuts = n := by rw [← hcu]; unfold ackK; split <;> rfl
            unfold CcPost at CK
            generalize ackK c s bt T2 c.first = v at *
            replace CK : ∀ V, Calls Try.prog 9 #[.agg (cc c), .agg (kc s), .int .u64 bt, .int .u64 T2, .int .u64 c.first] V fun e w' => e = .returned (.agg (kc v)) ∧ Below V.heap.size V w' := CK
            go_upto_region 21 with fail
            clear g0 hx0
            have ex := fun u : In (Lt wr) => inCell u g1
            have ef := fun u : In (Lt wr) => inCell u (o := 10) (v := .int .u64 c.first) (cB.cell 10)
            refine wp_region_rest (C := fun w' => ∃ u : In (Lt wr), w' = u.w) 12 1 (by kernel_rfl) (by kernel_rfl) (by kernel_rfl) (by kernel_rfl) (by kernel_rfl) ⟨⟨wr.drew, Lt.drew wr⟩, rfl⟩ ?_
            simp only [List.toList_toArray, List.take_succ_cons, List.take_zero]
            go_big_quiet_want
            refine quiet_row (x := .tmp 5) (cs := (cc c)) (in_some _) rfl (in_blk cB) Try.underlying24 rfl (by kernel_rfl) ?_
            go_big_quiet_op
            go_big_quiet_on
            go_big_quiet_want
            refine quiet_row (x := .tmp 6) (cs := (kc s)) (in_some _) rfl (in_blk sB) Try.underlying31 rfl (by kernel_rfl) ?_
            go_big_quiet_op
            go_big_quiet_on
            go_big_quiet_want
            go_big_quiet_op
            go_big_quiet_on
            go_big_quiet_want
            go_big_quiet_op
            go_big_quiet_on
            go_big_quiet_want
            go_big_quiet_op
            go_big_quiet_on
            go_big_quiet_want
            go_big_quiet_op
            go_big_quiet_on
            go_big_quiet_want
            go_big_quiet_op
            go_big_quiet_on
            go_big_quiet_want
            go_big_quiet_op
            go_big_quiet_on
            go_big_quiet_want
            go_big_quiet_op
            go_big_quiet_on
            go_big_quiet_want
            go_big_quiet_op
            go_big_quiet_on
            go_big_quiet_want
            go_big_quiet_op
            go_big_quiet_on
            go_big_quiet_want
            go_big_quiet_op
            go_big_quiet_call ((go_at_call 9; (with_reducible refine in_below (v := .agg (kc v)) ?_); with_reducible exact CK _))
            refine wpQuiet_nil ?_
            rintro w5 ⟨⟨_, hw5⟩, rfl⟩
            have hw5 : Below wr.heap.size wr w5 := hw5
            clear ex ef CK g1
            replace cB := cB.below hw5 cB.lt
            replace sB := sB.below hw5 sB.lt
            replace hL := Base.next hL hw5
            refine wpAny_of_held (S := fun _ => True) _ _ _ _ ?_
            refine h2_st (i := 12) rfl (by kernel_rfl) (by kernel_rfl) (by kernel_rfl) (st_row 31 (.tmp 6) (.tmp 99) rfl (g := b_sB) (cells := kc v) (by kernel_rfl) (by kernel_rfl) sB (by kernel_rfl) rfl (by simp [kc, Value.oneCell'])) trivial ?_
            refine held_done (by kernel_rfl) ?_
            obtain ⟨V, hV⟩ : ∃ V, V = w5.setRow b_sB (kc v) := ⟨_, rfl⟩
            rw [← hV]
            obtain ⟨cB', sB', hL'⟩ : Blk V b_cB (cc c) 24 ∧ Blk V b_sB (kc v) 31 ∧ Below w.heap.size w V := by
              subst hV
              exact ⟨cB.otherRow (show _ ≠ _ by omega) _, sB.setRow _, below_setRow' hL hge_sB⟩
            clear hV cB sB hL hw5 hls hlc hbr
            have cB := cB'
            have sB := sB'
            have hL := hL'
            clear cB' sB' hL'
            have g1 := (hL.cell (p := ⟨b', off' + k * 4 + 1, none⟩) hb').trans hx1
            have hbr : b' < V.heap.size := Nat.lt_of_lt_of_le hb' hL.size
            go_wp2
            go_meet
            exact ⟨v, M + bt, false, rfl, rfl, P', by omega, by omega, (fun h => nomatch h), fun _ => hcv, cB, sB, hL⟩
          · have CK := fun V => ack_any c hcw.fit s hp.fit bt T2 c.first ⟨bt0, by omega⟩ ⟨T20, by omega⟩ ⟨by omega, by omega⟩ V
            have P' := pl_ack hcw hp hMM bt0 bt1 (now := T2) (smooth := c.first) ⟨T20, by omega⟩ ⟨by omega, by omega⟩
            have hcv : (ackK c s bt T2 c.first).d.cuts = n := by rw [← hcu]; unfold ackK; split <;> rfl
            unfold CcPost at CK
            generalize ackK c s bt T2 c.first = v at *
            replace CK : ∀ V, Calls Try.prog 9 #[.agg (cc c), .agg (kc s), .int .u64 bt, .int .u64 T2, .int .u64 c.first] V fun e w' => e = .returned (.agg (kc v)) ∧ Below V.heap.size V w' := CK
            go_upto_region 21 with fail
            clear g0 hx0
            have ex := fun u : In (Lt wr) => inCell u g1
            have ef := fun u : In (Lt wr) => inCell u (o := 10) (v := .int .u64 c.first) (cB.cell 10)
            refine wp_region_rest (C := fun w' => ∃ u : In (Lt wr), w' = u.w) 12 1 (by kernel_rfl) (by kernel_rfl) (by kernel_rfl) (by kernel_rfl) (by kernel_rfl) ⟨⟨wr.drew, Lt.drew wr⟩, rfl⟩ ?_
            simp only [List.toList_toArray, List.take_succ_cons, List.take_zero]
            go_big_quiet_want
            refine quiet_row (x := .tmp 5) (cs := (cc c)) (in_some _) rfl (in_blk cB) Try.underlying24 rfl (by kernel_rfl) ?_
            go_big_quiet_op
            go_big_quiet_on
            go_big_quiet_want
            refine quiet_row (x := .tmp 6) (cs := (kc s)) (in_some _) rfl (in_blk sB) Try.underlying31 rfl (by kernel_rfl) ?_
            go_big_quiet_op
            go_big_quiet_on
            go_big_quiet_want
            go_big_quiet_op
            go_big_quiet_on
            go_big_quiet_want
            go_big_quiet_op
            go_big_quiet_on
            go_big_quiet_want
            go_big_quiet_op
            go_big_quiet_on
            go_big_quiet_want
            go_big_quiet_op
            go_big_quiet_on
            go_big_quiet_want
            go_big_quiet_op
            go_big_quiet_on
            go_big_quiet_want
            go_big_quiet_op
            go_big_quiet_on
            go_big_quiet_want
            go_big_quiet_op
            go_big_quiet_on
            go_big_quiet_want
            go_big_quiet_op
            go_big_quiet_on
            go_big_quiet_want
            go_big_quiet_op
            go_big_quiet_on
            go_big_quiet_want
            go_big_quiet_op
            go_big_quiet_call ((go_at_call 9; (with_reducible refine in_below (v := .agg (kc v)) ?_); with_reducible exact CK _))
            refine wpQuiet_nil ?_
            rintro w5 ⟨⟨_, hw5⟩, rfl⟩
            have hw5 : Below wr.heap.size wr w5 := hw5
            clear ex ef CK g1
            replace cB := cB.below hw5 cB.lt
            replace sB := sB.below hw5 sB.lt
            replace hL := Base.next hL hw5
            refine wpAny_of_held (S := fun _ => True) _ _ _ _ ?_
            refine h2_st (i := 12) rfl (by kernel_rfl) (by kernel_rfl) (by kernel_rfl) (st_row 31 (.tmp 6) (.tmp 99) rfl (g := b_sB) (cells := kc v) (by kernel_rfl) (by kernel_rfl) sB (by kernel_rfl) rfl (by simp [kc, Value.oneCell'])) trivial ?_
            refine held_done (by kernel_rfl) ?_
            obtain ⟨V, hV⟩ : ∃ V, V = w5.setRow b_sB (kc v) := ⟨_, rfl⟩
            rw [← hV]
            obtain ⟨cB', sB', hL'⟩ : Blk V b_cB (cc c) 24 ∧ Blk V b_sB (kc v) 31 ∧ Below w.heap.size w V := by
              subst hV
              exact ⟨cB.otherRow (show _ ≠ _ by omega) _, sB.setRow _, below_setRow' hL hge_sB⟩
            clear hV cB sB hL hw5 hls hlc hbr
            have cB := cB'
            have sB := sB'
            have hL := hL'
            clear cB' sB' hL'
            have g1 := (hL.cell (p := ⟨b', off' + k * 4 + 1, none⟩) hb').trans hx1
            have hbr : b' < V.heap.size := Nat.lt_of_lt_of_le hb' hL.size
            go_wp2
            go_meet
            exact ⟨v, M + bt, false, rfl, rfl, P', by omega, by omega, (fun h => nomatch h), fun _ => hcv, cB, sB, hL⟩
          · have CK := fun V => loss_any c hcw.fit s hp.fit p (N2 + 1) ⟨p0, by omega⟩ ⟨by omega, by omega⟩ V
            obtain ⟨P', yes, no⟩ := pl_loss hcw hp hMi (r := 10) (q := 14) (pn := p) (N := N2) (n := n) (by decide) (by decide) (by decide) (by decide) p0 p1 (by omega) hcu (by omega)
            generalize lossK c s p (N2 + 1) 10 14 = v at *
            generalize lossB c s p = lb at *
            replace CK : ∀ V, Calls Try.prog 13 #[.agg (cc c), .agg (kc s), .int .u64 p, .int .u64 (N2 + 1)] V fun e w' => e = .returned (.tuple #[.agg (kc v), .bool lb]) ∧ Below V.heap.size V w' := CK
            clear g1 hbr
            go_upto_region 24 with fail
            go_wp2_with (first | (refine wpl_load_row (by kernel_rfl) 24 (.tmp 5) rfl b_cB rfl 24 (cc c) (0, 0) _ cB Try.underlying24 rfl (by kernel_rfl) ?_) | (refine wpl_load_row (by kernel_rfl) 31 (.tmp 6) rfl b_sB rfl 31 (kc s) (0, 0) _ sB Try.underlying31 rfl (by kernel_rfl) ?_) | (go_at_call 13; (with_reducible refine (CK _).mono ?_); rintro x' y2 ⟨rfl, L2⟩; replace cB := cB.below L2 cB.lt; replace sB := sB.below L2 sB.lt; replace hL := Base.next hL L2) | (refine wpl_store_row rfl 31 (.tmp 6) (.tmp 117) rfl sB (kc v) rfl rfl (by kernel_rfl) rfl (by simp [kc, Value.oneCell']) ?_))
            go_meet
            exact ⟨v, M, lb, rfl, rfl, P', by omega, by omega, yes, fun h => by rw [no h]; exact hcu, cB.otherRow (show _ ≠ _ by omega) _, sB.setRow _, below_setRow' hL hge_sB⟩
          · have CK := fun V => mark_any c hcw.fit s hp.fit p (N2 + 1) ⟨p0, by omega⟩ ⟨by omega, by omega⟩ V
            obtain ⟨P', yes, no⟩ := pl_loss hcw hp hMi (r := 16) (q := 17) (pn := p) (N := N2) (n := n) (by decide) (by decide) (by decide) (by decide) p0 p1 (by omega) hcu (by omega)
            generalize lossK c s p (N2 + 1) 16 17 = v at *
            generalize lossB c s p = lb at *
            replace CK : ∀ V, Calls Try.prog 15 #[.agg (cc c), .agg (kc s), .int .u64 p, .int .u64 (N2 + 1)] V fun e w' => e = .returned (.tuple #[.agg (kc v), .bool lb]) ∧ Below V.heap.size V w' := CK
            clear g1 hbr
            go_upto_region 26 with fail
            go_wp2_with (first | (refine wpl_load_row (by kernel_rfl) 24 (.tmp 5) rfl b_cB rfl 24 (cc c) (0, 0) _ cB Try.underlying24 rfl (by kernel_rfl) ?_) | (refine wpl_load_row (by kernel_rfl) 31 (.tmp 6) rfl b_sB rfl 31 (kc s) (0, 0) _ sB Try.underlying31 rfl (by kernel_rfl) ?_) | (go_at_call 15; (with_reducible refine (CK _).mono ?_); rintro x' y2 ⟨rfl, L2⟩; replace cB := cB.below L2 cB.lt; replace sB := sB.below L2 sB.lt; replace hL := Base.next hL L2) | (refine wpl_store_row rfl 31 (.tmp 6) (.tmp 128) rfl sB (kc v) rfl rfl (by kernel_rfl) rfl (by simp [kc, Value.oneCell']) ?_))
            go_meet
            exact ⟨v, M, lb, rfl, rfl, P', by omega, by omega, yes, fun h => by rw [no h]; exact hcu, cB.otherRow (show _ ≠ _ by omega) _, sB.setRow _, below_setRow' hL hge_sB⟩
          · have CK := fun V => fall_any c hcw.fit s hp.fit V
            obtain ⟨P', ecw, ed⟩ := pl_fall hcw hp hMi
            unfold CcPost at CK
            generalize fallK c s = v at *
            replace CK : ∀ V, Calls Try.prog 17 #[.agg (cc c), .agg (kc s)] V fun e w' => e = .returned (.agg (kc v)) ∧ Below V.heap.size V w' := CK
            clear g1 hbr
            go_upto_region 15 with fail
            go_upto_region 16 with (first | (refine wpl_load_row (by kernel_rfl) 24 (.tmp 5) rfl b_cB rfl 24 (cc c) (0, 0) _ cB Try.underlying24 rfl (by kernel_rfl) ?_) | (refine wpl_load_row (by kernel_rfl) 31 (.tmp 6) rfl b_sB rfl 31 (kc s) (0, 0) _ sB Try.underlying31 rfl (by kernel_rfl) ?_) | (go_at_call 17; (with_reducible refine (CK _).mono ?_); rintro x' y2 ⟨rfl, L2⟩; replace cB := cB.below L2 cB.lt; replace sB := sB.below L2 sB.lt; replace hL := Base.next hL L2) | (refine wpl_store_row rfl 31 (.tmp 6) (.tmp 70) rfl sB (kc v) rfl rfl (by kernel_rfl) rfl (by simp [kc, Value.oneCell']) ?_))
            refine Base.at_any ?_
            intro V hV
            obtain ⟨cB', sB', hL'⟩ : Blk V b_cB (cc c) 24 ∧ Blk V b_sB (kc v) 31 ∧ Below w.heap.size w V := by
              subst hV
              exact ⟨cB.otherRow (show _ ≠ _ by omega) _, sB.setRow _, below_setRow' hL hge_sB⟩
            clear hV cB sB hL
            have cB := cB'
            have sB := sB'
            have hL := hL'
            clear cB' sB' hL'
            clear CK L2 g0 hx0 hls hlc
            have hcv : v.d.cuts = n := by rw [ed]; exact hcu
            have c7 : _ = some (Value.int .u64 c.least) := cB.cell 7
            have s7 : V.cell? ⟨b_sB, 7, none⟩ = some (Value.int .u64 s.d.end_) := (sB.cell 7).trans (by show some (Value.int .u64 v.d.end_) = _; rw [ed])
            have s0 : V.cell? ⟨b_sB, 0, none⟩ = some (Value.int .u64 c.least) := (sB.cell 0).trans (by show some (Value.int .u64 v.w.cw) = _; rw [ecw])
            have hls := sB.lt
            have hlc := cB.lt
            clear ecw ed
            go_wp2
            go_meet
            exact ⟨v, M, false, rfl, rfl, P', by omega, by omega, (fun h => nomatch h), fun _ => hcv, cB, sB, hL⟩
        case rest =>
          clear cB sB hL g0 g1 hbr hls hlc hx0 hx1 hK6
          obtain ⟨v, M2, lb, rfl, rfl, P', hM2, hM3, yes, no, cB, sB, hL⟩ := hcut
          cases lb
          · have e3 := no rfl
            clear yes no
            have q1 := P'.lo
            have q2 := P'.hi
            have q3 := P'.th
            have q4 := P'.all
            have hls := sB.lt
            have hlc := cB.lt
            have c7 : _ = some (Value.int .u64 c.least) := cB.cell 7
            have c8 : _ = some (Value.int .u64 c.most) := cB.cell 8
            have s0 : _ = some (Value.int .u64 v.w.cw) := sB.cell 0
            have s1 : _ = some (Value.int .u64 v.w.th) := sB.cell 1


            have hE := Lib.hid e3
            clear e3
            go_wp2
            all_goals go_roundw
            case rel => exact ⟨k + 1, v, M2, T2, N2, n, by omega, by go_num, rfl, rfl, rfl, rfl, P', by omega, by omega, by omega, by omega, by omega, by omega, hE.out, by omega, by omega, cB, sB, hL⟩
            case measure => simp [intOf]; omega
          · obtain ⟨e1, e2, e3⟩ := yes rfl
            clear yes no
            have q1 := P'.lo
            have q2 := P'.hi
            have q3 := P'.th
            have q4 := P'.all
            have hls := sB.lt
            have hlc := cB.lt
            have c7 : _ = some (Value.int .u64 c.least) := cB.cell 7
            have c8 : _ = some (Value.int .u64 c.most) := cB.cell 8
            have s0 : _ = some (Value.int .u64 v.w.cw) := sB.cell 0
            have s1 : _ = some (Value.int .u64 v.w.th) := sB.cell 1
            have s7 : wc.cell? ⟨b_sB, 7, none⟩ = some (Value.int .u64 (N2 + 1)) := (sB.cell 7).trans (by show some (Value.int .u64 v.d.end_) = _; rw [e2])
            clear e2
            have hE := Lib.hid e3
            clear e3
            go_wp2
            all_goals go_roundw
            case rel => exact ⟨k + 1, v, M2, T2, N2, n + 1, by omega, by go_num, rfl, rfl, rfl, rfl, P', by omega, by omega, by omega, by omega, by omega, by omega, hE.out, by omega, by omega, cB, sB, hL⟩
            case measure => simp [intOf]; omega
      · have hkn : ¬ ((k : Int) < (z1.length : Int)) := by omega
        have s8 : wr.cell? ⟨b_sB, 8, none⟩ = some (Value.int .u64 n) := (sB.cell 8).trans (by show some (Value.int .u64 s.d.cuts) = _; rw [hcu])
        have hls := sB.lt
        go_wp2
        go_ret
        exact ⟨ret_bool (by simp), hL⟩

set_option maxRecDepth 100000 in
theorem lifted (os : Os) (started : os.Started) (H : Type) (enc : TypeId × Value → H) :
    ReturnsInHanded {} Try.checked os 5 .any (Rows.controlPlaysSpec.pre6 enc Try.prog Try.f5 Rows.controlPlaysRow.domain false) (Rows.controlPlaysSpec.post enc Try.prog Try.f5 false true false false) := by
  refine returnsInHanded_of_change (C := Try.checked) own started (by kernel_rfl) Try.func5
    (ChangeSpec.witness6 (enc := enc) (C := Try.checked) false ⟨#[], #[.slice none 0 0, .slice none 0 0], []⟩ 8 (by kernel_rfl) (by kernel_rfl) (by kernel_rfl) (by kernel_rfl)) ?_
  intro W base args ds gs before hval0 hW hcnd _
  have hval : ∀ (j : Nat) t v, Try.f5.params[j]? = some t → args[j]? = some v → Value.okWide Try.prog W .any base t v := hval0
  have hW' := hW
  obtain ⟨p, q, hA0, hV, rfl, hfz, hnd⟩ := hW
  have hA : DataW.TrodAll enc Try.prog W 0 (fun _ => true) true Try.f5.params.toList args.toList ds p := hA0
  rw [Try.params5] at hA hval
  obtain ⟨v0, vs0, d0, ds0, p0, q0, hargs, rfl, rfl, h0, r0⟩ := trodAll_cons hA
  obtain ⟨v1, vs1, d1, ds1, p1, q1, rfl, rfl, rfl, h1, r1⟩ := trodAll_cons r0
  obtain ⟨rfl, rfl, rfl⟩ := trodAll_nil r1
  obtain rfl : args = #[v0, v1] := by cases args; simp_all
  obtain ⟨rfl, rfl⟩ := trodVars_none hV
  obtain ⟨a0, len0, cap0, rfl⟩ := okWide_slice Try.underlying25 (hval 0 25 v0 rfl rfl)
  have k0 := h0
  have lt0 : ∀ x ∈ p0, x.block < W.heap.size := by obtain ⟨m, hm⟩ := k0; exact DataW.trod_lt m _ _ _ hm
  obtain ⟨z0, w0, n0, m0, o0, f0⟩ : ∃ zs, Ints .u32 W a0 zs ∧ zs.length = len0 ∧ len0 ≤ cap0 ∧ cap0 ≤ maxLen ∧ (∀ x ∈ zs, (Lit.int .u32 x).wf = true) := by
    obtain ⟨fuel, hf⟩ := h0
    rcases open_ints Try.underlying25 Try.underlying49 (by kernel_rfl) hf with ⟨hcs, hx⟩ | ⟨x, l, c, zs, hcs, _, hl, hm, hz, hx, hcell, hwz⟩
    · simp [Value.cells] at hcs
      obtain ⟨rfl, rfl, rfl⟩ := hcs
      exact ⟨[], Row.nil _ _, rfl, Nat.le_refl _, Nat.zero_le _, (fun _ h => by cases h)⟩
    · simp [Value.cells] at hcs
      obtain ⟨rfl, rfl, rfl⟩ := hcs
      exact ⟨zs.take len0, ints_of hl (by simpa using hz) hcell, take_len hl (by simpa using hz), hl, hm, (fun x hx => hwz x (List.mem_of_mem_take hx))⟩
  obtain ⟨a1, len1, cap1, rfl⟩ := okWide_slice Try.underlying42 (hval 1 42 v1 rfl rfl)
  have k1 := h1
  have lt1 : ∀ x ∈ p1, x.block < W.heap.size := by obtain ⟨m, hm⟩ := k1; exact DataW.trod_lt m _ _ _ hm
  obtain ⟨z1, w1, n1, m1, o1⟩ : ∃ zs, Recs W a1 [.int .u8, .int .u16, .int .u16, .int .u64] zs ∧ zs.length = len1 ∧ len1 ≤ cap1 ∧ cap1 ≤ maxLen := by
    obtain ⟨fuel, hf⟩ := h1
    rcases open_recs Try.underlying42 (show leaf Try.prog 6 45 = some [.int .u8, .int .u16, .int .u16, .int .u64] by kernel_rfl) (by kernel_rfl) (by decide) hf with ⟨hcs, hx⟩ | ⟨x, l, c, zs, hcs, hl, hm, hz, hsp⟩
    · simp [Value.cells] at hcs
      obtain ⟨rfl, rfl, rfl⟩ := hcs
      exact ⟨[], Recs.nil _ _ _, rfl, Nat.le_refl _, Nat.zero_le _⟩
    · simp [Value.cells] at hcs
      obtain ⟨rfl, rfl, rfl⟩ := hcs
      exact ⟨zs, hsp, hz, hl, hm⟩
  clear hA0 hval0
  refine (walk a0 len0 cap0 z0 a1 len1 cap1 z1 W w0 n0 m0 o0 f0 w1 n1 m1 o1).mono fun e W' ⟨he, bel⟩ => ?_
  subst he
  exact ⟨_, rfl, _, _, _, [], _, [], hW', trodAll_mk1 (shut_bool Try.underlying4 _), (trodAll_cons_mk (Below.trod laidOut (by kernel_rfl) (of_decide_eq_true (by kernel_rfl)) k0 bel lt0) (trodAll_cons_mk (Below.trod laidOut (by kernel_rfl) (of_decide_eq_true (by kernel_rfl)) k1 bel lt1) trodAll_mk0)), rfl, bel.frame _, fun h => by cases h⟩

theorem over : Rows.controlPlaysRow.holds Try.pinned (OpenSpec.ofChange Rows.controlPlaysSpec) :=
  OpenClaim.holds_of_wide 5 Try.f5 rfl rfl rfl rfl rfl rfl rfl ⟨rfl, rfl, rfl, rfl, rfl⟩ rfl rfl rfl rfl rfl (by kernel_rfl) Try.func5 (by kernel_rfl)
    (of_decide_eq_true (by kernel_rfl)) (by unfold Func.isWrapper; first | (rw [if_pos (by decide +kernel)]; kernel_rfl) | (rw [if_neg (by decide +kernel)]; exact ⟨rfl, rfl⟩))
    (fun os started H enc _ => lifted os started H enc)

/-- The given statement. -/
theorem proved : Rows.ControlPlaysSaid :=
  over
#print axioms proved
end Go.Proofs.Ytnnpklnhdfpnjaa.controlPlays
