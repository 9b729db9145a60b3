/-
  A packet of a round that was cut cuts no more, whichever way. No conditions.
-/
import Derived.Test.YtnnpklnhdfpnjaaFlat
import Derived.Test.YtnnpklnhdfpnjaaRows
import Derived.Test.YtnnpklnhdfpnjaaRow
import Derived.WalkKit
import Derived.ProofKit
import Derived.OpenShut
import Derived.ShutString
import Derived.ChangeOld
import Derived.Below
import Derived.Test.YtnnpklnhdfpnjaaControlEnd
import Derived.Test.YtnnpklnhdfpnjaaConfPure
namespace Go.Proofs.Ytnnpklnhdfpnjaa.controlOnce
open Go.ChangeShapes Go.WideShapes Go.ChangeAt Go.RowKit
open Go.ChangeMaps (open_string shut_string)
open Go.Proofs.Ytnnpklnhdfpnjaa.Base
set_option linter.unusedVariables false
set_option linter.unusedSimpArgs false

theorem own : ownKnob Try.prog.godebug = none := by kernel_rfl
theorem laidOut : laidOutB Try.prog = true := by kernel_rfl

open Go.Proofs.Ytnnpklnhdfpnjaa.Control Go.Proofs.Ytnnpklnhdfpnjaa.ControlPlain Go.Proofs.Ytnnpklnhdfpnjaa.CubicPlain Go.Proofs.Ytnnpklnhdfpnjaa.RenoPlain Go.Proofs.Ytnnpklnhdfpnjaa.RoundPlain Go.Proofs.Ytnnpklnhdfpnjaa.ConfPlain Go.Proofs.Ytnnpklnhdfpnjaa.Conf Go.Proofs.Ytnnpklnhdfpnjaa.Hop
theorem cut_le (c : C) (hc : CFit c) {w : Wn} (h : WFit w) : (cutK c w 10 14).cw ≤ max w.cw c.least := by
  have h1 : (cutV c w 10 14).cw ≤ w.cw := by
    have hw := h.cw
    unfold cutV
    split
    · exact down_le hw.1 (by decide) (by decide) (by have := hw.1; omega)
    · exact down_le hw.1 (by decide) (by decide) (by have := hw.1; omega)
  have e : (cutK c w 10 14).cw = Sat.clamp (cutV c w 10 14).cw c.least c.most := rfl
  rw [e]
  unfold Sat.clamp
  split
  · omega
  · split <;> omega
set_option maxHeartbeats 8000000 in
set_option maxRecDepth 20000 in
theorem walk (a0 : Option Addr) (len0 cap0 : Nat) (z0 : List Int) (c1_0 : Int) (c1_1 : Int) (c1_2 : Int) (c1_3 : Int) (c1_4 : Int) (c1_5 : Int) (c1_6 : Int) (c1_7 : Int) (c1_8 : Int) (a2 : Int) (a3 : Int) (a4 : Int) (w : World) (w0 : Ints .u32 w a0 z0) (n0 : z0.length = len0) (m0 : len0 ≤ cap0) (o0 : cap0 ≤ maxLen) (f0 : ∀ x ∈ z0, (Lit.int .u32 x).wf = true) (w1_0 : (Lit.int .u64 c1_0).wf = true) (w1_1 : (Lit.int .u64 c1_1).wf = true) (w1_2 : (Lit.int .u64 c1_2).wf = true) (w1_3 : (Lit.int .u64 c1_3).wf = true) (w1_4 : (Lit.int .u64 c1_4).wf = true) (w1_5 : (Lit.int .u64 c1_5).wf = true) (w1_6 : (Lit.int .u64 c1_6).wf = true) (w1_7 : (Lit.int .u64 c1_7).wf = true) (w1_8 : (Lit.int .u64 c1_8).wf = true) (w2 : (Lit.int .u64 a2).wf = true) (w3 : (Lit.int .u64 a3).wf = true) (w4 : (Lit.int .u64 a4).wf = true) :
    Calls Try.prog 6 #[.slice a0 len0 cap0, .agg #[.int .u64 c1_0, .int .u64 c1_1, .int .u64 c1_2, .int .u64 c1_3, .int .u64 c1_4, .int .u64 c1_5, .int .u64 c1_6, .int .u64 c1_7, .int .u64 c1_8], .int .u64 a2, .int .u64 a3, .int .u64 a4] w fun e w' => e = .returned (.bool true) ∧ Below w.heap.size w w' := by
  have hb : ∀ x ∈ z0, 0 ≤ x ∧ x ≤ 4294967295 := fun x hx => Base.u32_of (f0 x hx)
  have hs : KFit ⟨⟨c1_0, c1_1, c1_2, c1_3, c1_4, c1_5, c1_6⟩, ⟨c1_7, c1_8⟩⟩ := ⟨⟨Base.u64_of w1_0, Base.u64_of w1_1, Base.u64_of w1_2, Base.u64_of w1_3, Base.u64_of w1_4, Base.u64_of w1_5, Base.u64_of w1_6⟩, ⟨(Base.u64_of w1_7).1, (Base.u64_of w1_7).2, (Base.u64_of w1_8).1, (Base.u64_of w1_8).2⟩⟩
  have hp : U a2 := Base.u64_of w2
  have hn : U a3 := Base.u64_of w3
  have hl : U a4 := Base.u64_of w4
  have CA := fun V => alive_control V
  have CF := fun V hz => conf_is a0 len0 cap0 z0 V n0 (by omega) hb hz
  by_cases hnp : a3 ≤ a2
  · go_enter Try.func6, Try.ntmps6
    go_upto_region 1 with fail
    refine at_any ?_
    intro W hW
    obtain ⟨sB, hL⟩ : Blk W w.heap.size #[.int .u64 c1_0, .int .u64 c1_1, .int .u64 c1_2, .int .u64 c1_3, .int .u64 c1_4, .int .u64 c1_5, .int .u64 c1_6, .int .u64 c1_7, .int .u64 c1_8] 31 ∧ Below w.heap.size w W := by
      subst hW
      exact ⟨Blk.new _ _ _, (Below.refl _ _).alloc (Nat.le_refl _) _⟩
    clear hW
    have lt_sB := sB.lt
    go_upto_region 2 with (go_at_call 7; refine (CF _ (Row.below w0 hL)).mono ?_; rintro x' y0 ⟨c, rfl, hm, -, L0⟩; replace sB := sB.below L0 lt_sB; replace hL := Base.next hL L0; replace lt_sB := sB.lt)
    refine at_any ?_
    intro X hX
    obtain ⟨cB', sB', hL'⟩ : Blk X y0.heap.size (cc c) 24 ∧ Blk X w.heap.size #[.int .u64 c1_0, .int .u64 c1_1, .int .u64 c1_2, .int .u64 c1_3, .int .u64 c1_4, .int .u64 c1_5, .int .u64 c1_6, .int .u64 c1_7, .int .u64 c1_8] 31 ∧ Below w.heap.size w X := by
      subst hX
      exact ⟨Blk.new _ _ _, sB.alloc _, hL.alloc hL.size _⟩
    have hgt_cB_sB : w.heap.size < y0.heap.size := sB.lt
    have hge_cB : w.heap.size ≤ y0.heap.size := hL.size
    clear hX sB hL
    clear lt_sB
    generalize y0.heap.size = b_cB at *
    have cB := cB'
    have sB := sB'
    have hL := hL'
    clear cB' sB' hL'
    have lt_cB := cB.lt
    have lt_sB := sB.lt
    go_wp2_with (first
      | (go_at_call 8; (with_reducible refine (CA X).mono ?_); rintro x' y1 ⟨rfl, L1⟩)
      | (go_at_call 8; (with_reducible refine (CA y1).mono ?_); rintro x' y2 ⟨rfl, L2⟩))
    all_goals go_ret
    all_goals exact ⟨rfl, Base.next (Base.next hL L1) L2⟩
  · go_enter Try.func6, Try.ntmps6
    go_upto_region 1 with fail
    refine at_any ?_
    intro W hW
    obtain ⟨sB, hL⟩ : Blk W w.heap.size #[.int .u64 c1_0, .int .u64 c1_1, .int .u64 c1_2, .int .u64 c1_3, .int .u64 c1_4, .int .u64 c1_5, .int .u64 c1_6, .int .u64 c1_7, .int .u64 c1_8] 31 ∧ Below w.heap.size w W := by
      subst hW
      exact ⟨Blk.new _ _ _, (Below.refl _ _).alloc (Nat.le_refl _) _⟩
    clear hW
    have lt_sB := sB.lt
    go_upto_region 2 with (go_at_call 7; refine (CF _ (Row.below w0 hL)).mono ?_; rintro x' y0 ⟨c, rfl, hm, -, L0⟩; replace sB := sB.below L0 lt_sB; replace hL := Base.next hL L0; replace lt_sB := sB.lt)
    refine at_any ?_
    intro X hX
    obtain ⟨cB', sB', hL'⟩ : Blk X y0.heap.size (cc c) 24 ∧ Blk X w.heap.size #[.int .u64 c1_0, .int .u64 c1_1, .int .u64 c1_2, .int .u64 c1_3, .int .u64 c1_4, .int .u64 c1_5, .int .u64 c1_6, .int .u64 c1_7, .int .u64 c1_8] 31 ∧ Below w.heap.size w X := by
      subst hX
      exact ⟨Blk.new _ _ _, sB.alloc _, hL.alloc hL.size _⟩
    have hgt_cB_sB : w.heap.size < y0.heap.size := sB.lt
    have hge_cB : w.heap.size ≤ y0.heap.size := hL.size
    clear hX sB hL
    clear lt_sB
    generalize y0.heap.size = b_cB at *
    have cB := cB'
    have sB := sB'
    have hL := hL'
    clear cB' sB' hL'
    have lt_cB := cB.lt
    have lt_sB := sB.lt
    have hcf := made_cfit hm
    have hv : pos (flags c) = 0 := pos_fit hm
    have hB : lossB c ⟨⟨c1_0, c1_1, c1_2, c1_3, c1_4, c1_5, c1_6⟩, ⟨c1_7, c1_8⟩⟩ a2 = decide (c1_7 ≤ a2) := by unfold lossB; rw [hv]; simp
    go_upto_region 4 with (go_at_call 8; refine (CA _).mono ?_; rintro x' y1 ⟨rfl, L1⟩; replace cB := cB.below L1 lt_cB; replace sB := sB.below L1 lt_sB; replace hL := Base.next hL L1; replace lt_cB := cB.lt; replace lt_sB := sB.lt)
    by_cases hf : c1_7 ≤ a2
    · have C1 := fun V => loss_any c hcf ⟨⟨c1_0, c1_1, c1_2, c1_3, c1_4, c1_5, c1_6⟩, ⟨c1_7, c1_8⟩⟩ hs a2 a3 hp hn V
      have hB' : lossB c ⟨⟨c1_0, c1_1, c1_2, c1_3, c1_4, c1_5, c1_6⟩, ⟨c1_7, c1_8⟩⟩ a2 = true := by rw [hB]; simpa using hf
      have hk2 := fit_loss hcf hs (pn := a2) (next := a3) (r := 10) (q := 14) hp hn ⟨by decide, by decide⟩ ⟨by decide, by decide⟩
      rw [loss_yes hB'] at C1 hk2
      rw [hB'] at C1
      have hcw := cut_le c hcf (w := ⟨c1_0, c1_1, c1_2, c1_3, c1_4, c1_5, c1_6⟩) hs.w
      have he : beginP ⟨c1_7, c1_8⟩ a2 a3 = ⟨a3, Sat.add c1_8 1⟩ := by rw [begin_yes (r := ⟨c1_7, c1_8⟩) hf]; unfold endP; rw [if_neg (by omega)]
      simp only at C1 hk2 hcw
      rw [he] at C1 hk2
      generalize cutK c ⟨c1_0, c1_1, c1_2, c1_3, c1_4, c1_5, c1_6⟩ 10 14 = v at *
      generalize Sat.add c1_8 1 = k2 at *
      obtain ⟨q0, q1, q2, q3, q4, q5, q6⟩ := v
      simp only at hcw
      replace C1 : ∀ V, Calls Try.prog 13 #[.agg (cc c), .agg #[.int .u64 c1_0, .int .u64 c1_1, .int .u64 c1_2, .int .u64 c1_3, .int .u64 c1_4, .int .u64 c1_5, .int .u64 c1_6, .int .u64 c1_7, .int .u64 c1_8], .int .u64 a2, .int .u64 a3] V fun e w' => e = .returned (.tuple #[.agg #[.int .u64 q0, .int .u64 q1, .int .u64 q2, .int .u64 q3, .int .u64 q4, .int .u64 q5, .int .u64 q6, .int .u64 a3, .int .u64 k2], .bool true]) ∧ Below V.heap.size V w' := C1
      obtain ⟨n, en, n0', n1'⟩ : ∃ n, a4 % a3 = n ∧ 0 ≤ n ∧ n < a3 := ⟨_, rfl, Int.emod_nonneg _ (by unfold U at *; omega), Int.emod_lt_of_pos _ (by unfold U at *; omega)⟩
      have et : a4.tmod a3 = n := by rw [Int.tmod_eq_emod_of_nonneg hl.1, en]
      obtain ⟨nx, enx, bnx⟩ : ∃ nx, IntKind.u64.wrap (a3 + 1) = nx ∧ U nx := ⟨_, rfl, by rw [IntKind.wrap_u64]; unfold U; omega⟩
      have hno : lossB c ⟨⟨q0, q1, q2, q3, q4, q5, q6⟩, ⟨a3, k2⟩⟩ n = false := by unfold lossB; rw [hv]; simp; exact n1'
      have un : U n := ⟨n0', by unfold U at hn; omega⟩
      have C2 := fun V => loss_any c hcf ⟨⟨q0, q1, q2, q3, q4, q5, q6⟩, ⟨a3, k2⟩⟩ hk2 n nx un bnx V
      have C3 := fun V => mark_any c hcf ⟨⟨q0, q1, q2, q3, q4, q5, q6⟩, ⟨a3, k2⟩⟩ hk2 n nx un bnx V
      rw [loss_no hno, hno] at C2 C3
      replace C2 : ∀ V, Calls Try.prog 13 #[.agg (cc c), .agg #[.int .u64 q0, .int .u64 q1, .int .u64 q2, .int .u64 q3, .int .u64 q4, .int .u64 q5, .int .u64 q6, .int .u64 a3, .int .u64 k2], .int .u64 n, .int .u64 nx] V fun e w' => e = .returned (.tuple #[.agg #[.int .u64 q0, .int .u64 q1, .int .u64 q2, .int .u64 q3, .int .u64 q4, .int .u64 q5, .int .u64 q6, .int .u64 a3, .int .u64 k2], .bool false]) ∧ Below V.heap.size V w' := C2
      replace C3 : ∀ V, Calls Try.prog 15 #[.agg (cc c), .agg #[.int .u64 q0, .int .u64 q1, .int .u64 q2, .int .u64 q3, .int .u64 q4, .int .u64 q5, .int .u64 q6, .int .u64 a3, .int .u64 k2], .int .u64 n, .int .u64 nx] V fun e w' => e = .returned (.tuple #[.agg #[.int .u64 q0, .int .u64 q1, .int .u64 q2, .int .u64 q3, .int .u64 q4, .int .u64 q5, .int .u64 q6, .int .u64 a3, .int .u64 k2], .bool false]) ∧ Below V.heap.size V w' := C3
      have ha30 : (a3 == 0) = false := by simp; unfold U at *; omega
      clear hB hB' CA hs hcf hm hk2 he hno en un
      go_upto_region 5 with (first | (refine wpl_load_row (by kernel_rfl) 24 (.tmp 11) rfl b_cB rfl 24 (cc c) (0, 0) _ cB Try.underlying24 rfl (by kernel_rfl) ?_) | (refine wpl_load_row (by kernel_rfl) 31 (.tmp 6) rfl w.heap.size rfl 31 #[.int .u64 c1_0, .int .u64 c1_1, .int .u64 c1_2, .int .u64 c1_3, .int .u64 c1_4, .int .u64 c1_5, .int .u64 c1_6, .int .u64 c1_7, .int .u64 c1_8] (0, 0) _ sB Try.underlying31 rfl (by kernel_rfl) ?_) | (go_at_call 13; (with_reducible refine (C1 _).mono ?_); rintro x' y2 ⟨rfl, L2⟩; replace cB := cB.below L2 lt_cB; replace sB := sB.below L2 lt_sB; replace hL := Base.next hL L2; replace lt_cB := cB.lt; replace lt_sB := sB.lt))
      refine at_any ?_
      intro X hX
      obtain ⟨tB', cB', sB', hL'⟩ : Blk X y2.heap.size #[.int .u64 q0, .int .u64 q1, .int .u64 q2, .int .u64 q3, .int .u64 q4, .int .u64 q5, .int .u64 q6, .int .u64 a3, .int .u64 k2] 31 ∧ Blk X b_cB (cc c) 24 ∧ Blk X w.heap.size #[.int .u64 c1_0, .int .u64 c1_1, .int .u64 c1_2, .int .u64 c1_3, .int .u64 c1_4, .int .u64 c1_5, .int .u64 c1_6, .int .u64 c1_7, .int .u64 c1_8] 31 ∧ Below w.heap.size w X := by
        subst hX
        exact ⟨Blk.new _ _ _, cB.alloc _, sB.alloc _, hL.alloc hL.size _⟩
      have hgt_tB_cB : b_cB < y2.heap.size := cB.lt
      have hgt_tB_sB : w.heap.size < y2.heap.size := sB.lt
      have hge_tB : w.heap.size ≤ y2.heap.size := hL.size
      clear hX cB sB hL
      clear lt_cB lt_sB
      generalize y2.heap.size = b_tB at *
      have tB := tB'
      have cB := cB'
      have sB := sB'
      have hL := hL'
      clear tB' cB' sB' hL'
      have lt_tB := tB.lt
      have lt_cB := cB.lt
      have lt_sB := sB.lt
      go_upto_region 9 with (first | (refine wpl_load_row (by kernel_rfl) 24 (.tmp 11) rfl b_cB rfl 24 (cc c) (0, 0) _ cB Try.underlying24 rfl (by kernel_rfl) ?_) | (refine wpl_load_row (by kernel_rfl) 31 (.tmp 12) rfl b_tB rfl 31 #[.int .u64 q0, .int .u64 q1, .int .u64 q2, .int .u64 q3, .int .u64 q4, .int .u64 q5, .int .u64 q6, .int .u64 a3, .int .u64 k2] (0, 0) _ tB Try.underlying31 rfl (by kernel_rfl) ?_) | (go_at_call 13; (with_reducible refine (C2 _).mono ?_); rintro x' y3 ⟨rfl, L3⟩; replace tB := tB.below L3 lt_tB; replace cB := cB.below L3 lt_cB; replace sB := sB.below L3 lt_sB; replace hL := Base.next hL L3; replace lt_tB := tB.lt; replace lt_cB := cB.lt; replace lt_sB := sB.lt))
      refine at_any ?_
      intro X hX
      obtain ⟨uB', tB', cB', sB', hL'⟩ : Blk X y3.heap.size #[.int .u64 q0, .int .u64 q1, .int .u64 q2, .int .u64 q3, .int .u64 q4, .int .u64 q5, .int .u64 q6, .int .u64 a3, .int .u64 k2] 31 ∧ Blk X b_tB #[.int .u64 q0, .int .u64 q1, .int .u64 q2, .int .u64 q3, .int .u64 q4, .int .u64 q5, .int .u64 q6, .int .u64 a3, .int .u64 k2] 31 ∧ Blk X b_cB (cc c) 24 ∧ Blk X w.heap.size #[.int .u64 c1_0, .int .u64 c1_1, .int .u64 c1_2, .int .u64 c1_3, .int .u64 c1_4, .int .u64 c1_5, .int .u64 c1_6, .int .u64 c1_7, .int .u64 c1_8] 31 ∧ Below w.heap.size w X := by
        subst hX
        exact ⟨Blk.new _ _ _, tB.alloc _, cB.alloc _, sB.alloc _, hL.alloc hL.size _⟩
      have hgt_uB_tB : b_tB < y3.heap.size := tB.lt
      have hgt_uB_cB : b_cB < y3.heap.size := cB.lt
      have hgt_uB_sB : w.heap.size < y3.heap.size := sB.lt
      have hge_uB : w.heap.size ≤ y3.heap.size := hL.size
      clear hX tB cB sB hL
      clear lt_tB lt_cB lt_sB
      generalize y3.heap.size = b_uB at *
      have uB := uB'
      have tB := tB'
      have cB := cB'
      have sB := sB'
      have hL := hL'
      clear uB' tB' cB' sB' hL'
      have lt_uB := uB.lt
      have lt_tB := tB.lt
      have lt_cB := cB.lt
      have lt_sB := sB.lt
      go_upto_region 10 with (first | (refine wpl_load_row (by kernel_rfl) 24 (.tmp 11) rfl b_cB rfl 24 (cc c) (0, 0) _ cB Try.underlying24 rfl (by kernel_rfl) ?_) | (refine wpl_load_row (by kernel_rfl) 31 (.tmp 12) rfl b_tB rfl 31 #[.int .u64 q0, .int .u64 q1, .int .u64 q2, .int .u64 q3, .int .u64 q4, .int .u64 q5, .int .u64 q6, .int .u64 a3, .int .u64 k2] (0, 0) _ tB Try.underlying31 rfl (by kernel_rfl) ?_) | (go_at_call 15; (with_reducible refine (C3 _).mono ?_); rintro x' y4 ⟨rfl, L4⟩; replace uB := uB.below L4 lt_uB; replace tB := tB.below L4 lt_tB; replace cB := cB.below L4 lt_cB; replace sB := sB.below L4 lt_sB; replace hL := Base.next hL L4; replace lt_uB := uB.lt; replace lt_tB := tB.lt; replace lt_cB := cB.lt; replace lt_sB := sB.lt))
      refine at_any ?_
      intro X hX
      obtain ⟨vB', uB', tB', cB', sB', hL'⟩ : Blk X y4.heap.size #[.int .u64 q0, .int .u64 q1, .int .u64 q2, .int .u64 q3, .int .u64 q4, .int .u64 q5, .int .u64 q6, .int .u64 a3, .int .u64 k2] 31 ∧ Blk X b_uB #[.int .u64 q0, .int .u64 q1, .int .u64 q2, .int .u64 q3, .int .u64 q4, .int .u64 q5, .int .u64 q6, .int .u64 a3, .int .u64 k2] 31 ∧ Blk X b_tB #[.int .u64 q0, .int .u64 q1, .int .u64 q2, .int .u64 q3, .int .u64 q4, .int .u64 q5, .int .u64 q6, .int .u64 a3, .int .u64 k2] 31 ∧ Blk X b_cB (cc c) 24 ∧ Blk X w.heap.size #[.int .u64 c1_0, .int .u64 c1_1, .int .u64 c1_2, .int .u64 c1_3, .int .u64 c1_4, .int .u64 c1_5, .int .u64 c1_6, .int .u64 c1_7, .int .u64 c1_8] 31 ∧ Below w.heap.size w X := by
        subst hX
        exact ⟨Blk.new _ _ _, uB.alloc _, tB.alloc _, cB.alloc _, sB.alloc _, hL.alloc hL.size _⟩
      have hgt_vB_uB : b_uB < y4.heap.size := uB.lt
      have hgt_vB_tB : b_tB < y4.heap.size := tB.lt
      have hgt_vB_cB : b_cB < y4.heap.size := cB.lt
      have hgt_vB_sB : w.heap.size < y4.heap.size := sB.lt
      have hge_vB : w.heap.size ≤ y4.heap.size := hL.size
      clear hX uB tB cB sB hL
      clear lt_uB lt_tB lt_cB lt_sB
      generalize y4.heap.size = b_vB at *
      have vB := vB'
      have uB := uB'
      have tB := tB'
      have cB := cB'
      have sB := sB'
      have hL := hL'
      clear vB' uB' tB' cB' sB' hL'
      have lt_vB := vB.lt
      have lt_uB := uB.lt
      have lt_tB := tB.lt
      have tB_0 : _ = some (Value.int .u64 q0) := tB.cell 0
      have lt_cB := cB.lt
      have lt_sB := sB.lt
      have sB_0 : _ = some (Value.int .u64 c1_0) := sB.cell 0
      have cB_7 : _ = some (Value.int .u64 c.least) := cB.cell 7
      obtain ⟨mx, emx⟩ : ∃ mx, max c1_0 c.least = mx := ⟨_, rfl⟩
      rw [emx] at hcw
      have HMX := Lib.hid emx
      clear emx
      go_wp2_with (first
        | (refine wpl_load_row (by kernel_rfl) 31 (.tmp 15) rfl b_uB rfl 31 #[.int .u64 q0, .int .u64 q1, .int .u64 q2, .int .u64 q3, .int .u64 q4, .int .u64 q5, .int .u64 q6, .int .u64 a3, .int .u64 k2] (0, 0) _ uB Try.underlying31 rfl (by kernel_rfl) ?_)
        | (refine wpl_load_row (by kernel_rfl) 31 (.tmp 12) rfl b_tB rfl 31 #[.int .u64 q0, .int .u64 q1, .int .u64 q2, .int .u64 q3, .int .u64 q4, .int .u64 q5, .int .u64 q6, .int .u64 a3, .int .u64 k2] (0, 0) _ tB Try.underlying31 rfl (by kernel_rfl) ?_)
        | (refine wpl_load_row (by kernel_rfl) 31 (.tmp 17) rfl b_vB rfl 31 #[.int .u64 q0, .int .u64 q1, .int .u64 q2, .int .u64 q3, .int .u64 q4, .int .u64 q5, .int .u64 q6, .int .u64 a3, .int .u64 k2] (0, 0) _ vB Try.underlying31 rfl (by kernel_rfl) ?_)
        | (refine wpl_val (v := .int .u64 mx) (by kernel_rfl) (by rw [← HMX.out]; exact mx_u64 (.tmp 92) (.tmp 94) _ (n := c1_0) (m := c.least) rfl rfl rfl) ?_))
      all_goals go_ret
      all_goals exact ⟨rfl, hL⟩
    · have C1 := fun V => loss_any c hcf ⟨⟨c1_0, c1_1, c1_2, c1_3, c1_4, c1_5, c1_6⟩, ⟨c1_7, c1_8⟩⟩ hs a2 a3 hp hn V
      have hB' : lossB c ⟨⟨c1_0, c1_1, c1_2, c1_3, c1_4, c1_5, c1_6⟩, ⟨c1_7, c1_8⟩⟩ a2 = false := by rw [hB]; simpa using hf
      rw [loss_no hB', hB'] at C1
      replace C1 : ∀ V, Calls Try.prog 13 #[.agg (cc c), .agg #[.int .u64 c1_0, .int .u64 c1_1, .int .u64 c1_2, .int .u64 c1_3, .int .u64 c1_4, .int .u64 c1_5, .int .u64 c1_6, .int .u64 c1_7, .int .u64 c1_8], .int .u64 a2, .int .u64 a3] V fun e w' => e = .returned (.tuple #[.agg #[.int .u64 c1_0, .int .u64 c1_1, .int .u64 c1_2, .int .u64 c1_3, .int .u64 c1_4, .int .u64 c1_5, .int .u64 c1_6, .int .u64 c1_7, .int .u64 c1_8], .bool false]) ∧ Below V.heap.size V w' := C1
      clear hB hB' CA hs hcf hm
      go_upto_region 5 with (first | (refine wpl_load_row (by kernel_rfl) 24 (.tmp 11) rfl b_cB rfl 24 (cc c) (0, 0) _ cB Try.underlying24 rfl (by kernel_rfl) ?_) | (refine wpl_load_row (by kernel_rfl) 31 (.tmp 6) rfl w.heap.size rfl 31 #[.int .u64 c1_0, .int .u64 c1_1, .int .u64 c1_2, .int .u64 c1_3, .int .u64 c1_4, .int .u64 c1_5, .int .u64 c1_6, .int .u64 c1_7, .int .u64 c1_8] (0, 0) _ sB Try.underlying31 rfl (by kernel_rfl) ?_) | (go_at_call 13; (with_reducible refine (C1 _).mono ?_); rintro x' y2 ⟨rfl, L2⟩; replace cB := cB.below L2 lt_cB; replace sB := sB.below L2 lt_sB; replace hL := Base.next hL L2; replace lt_cB := cB.lt; replace lt_sB := sB.lt))
      refine at_any ?_
      intro X hX
      obtain ⟨tB', cB', sB', hL'⟩ : Blk X y2.heap.size #[.int .u64 c1_0, .int .u64 c1_1, .int .u64 c1_2, .int .u64 c1_3, .int .u64 c1_4, .int .u64 c1_5, .int .u64 c1_6, .int .u64 c1_7, .int .u64 c1_8] 31 ∧ Blk X b_cB (cc c) 24 ∧ Blk X w.heap.size #[.int .u64 c1_0, .int .u64 c1_1, .int .u64 c1_2, .int .u64 c1_3, .int .u64 c1_4, .int .u64 c1_5, .int .u64 c1_6, .int .u64 c1_7, .int .u64 c1_8] 31 ∧ Below w.heap.size w X := by
        subst hX
        exact ⟨Blk.new _ _ _, cB.alloc _, sB.alloc _, hL.alloc hL.size _⟩
      have hgt_tB_cB : b_cB < y2.heap.size := cB.lt
      have hgt_tB_sB : w.heap.size < y2.heap.size := sB.lt
      have hge_tB : w.heap.size ≤ y2.heap.size := hL.size
      clear hX cB sB hL
      clear lt_cB lt_sB
      generalize y2.heap.size = b_tB at *
      have tB := tB'
      have cB := cB'
      have sB := sB'
      have hL := hL'
      clear tB' cB' sB' hL'
      have lt_tB := tB.lt
      have tB_0 : _ = some (Value.int .u64 c1_0) := tB.cell 0
      have tB_1 : _ = some (Value.int .u64 c1_1) := tB.cell 1
      have tB_2 : _ = some (Value.int .u64 c1_2) := tB.cell 2
      have tB_3 : _ = some (Value.int .u64 c1_3) := tB.cell 3
      have tB_4 : _ = some (Value.int .u64 c1_4) := tB.cell 4
      have tB_5 : _ = some (Value.int .u64 c1_5) := tB.cell 5
      have tB_6 : _ = some (Value.int .u64 c1_6) := tB.cell 6
      have tB_7 : _ = some (Value.int .u64 c1_7) := tB.cell 7
      have tB_8 : _ = some (Value.int .u64 c1_8) := tB.cell 8
      have lt_cB := cB.lt
      have lt_sB := sB.lt
      have sB_0 : _ = some (Value.int .u64 c1_0) := sB.cell 0
      have sB_1 : _ = some (Value.int .u64 c1_1) := sB.cell 1
      have sB_2 : _ = some (Value.int .u64 c1_2) := sB.cell 2
      have sB_3 : _ = some (Value.int .u64 c1_3) := sB.cell 3
      have sB_4 : _ = some (Value.int .u64 c1_4) := sB.cell 4
      have sB_5 : _ = some (Value.int .u64 c1_5) := sB.cell 5
      have sB_6 : _ = some (Value.int .u64 c1_6) := sB.cell 6
      have sB_7 : _ = some (Value.int .u64 c1_7) := sB.cell 7
      have sB_8 : _ = some (Value.int .u64 c1_8) := sB.cell 8
      go_wp2
      all_goals go_ret
      all_goals exact ⟨rfl, hL⟩

set_option maxRecDepth 100000 in
theorem lifted (os : Os) (started : os.Started) (H : Type) (enc : TypeId × Value → H) :
    ReturnsInHanded {} Try.checked os 6 .any (Rows.controlOnceSpec.pre6 enc Try.prog Try.f6 Rows.controlOnceRow.domain false) (Rows.controlOnceSpec.post enc Try.prog Try.f6 false true false false) := by
  refine returnsInHanded_of_change (C := Try.checked) own started (by kernel_rfl) Try.func6
    (ChangeSpec.witness6 (enc := enc) (C := Try.checked) false ⟨#[], #[.slice none 0 0, .agg #[.int .u64 0, .int .u64 0, .int .u64 0, .int .u64 0, .int .u64 0, .int .u64 0, .int .u64 0, .int .u64 0, .int .u64 0], .int .u64 0, .int .u64 0, .int .u64 0], []⟩ 8 (by kernel_rfl) (by kernel_rfl) (by kernel_rfl) (by kernel_rfl)) ?_
  intro W base args ds gs before hval0 hW hcnd _
  have hval : ∀ (j : Nat) t v, Try.f6.params[j]? = some t → args[j]? = some v → Value.okWide Try.prog W .any base t v := hval0
  have hW' := hW
  obtain ⟨p, q, hA0, hV, rfl, hfz, hnd⟩ := hW
  have hA : DataW.TrodAll enc Try.prog W 0 (fun _ => true) true Try.f6.params.toList args.toList ds p := hA0
  rw [Try.params6] at hA hval
  obtain ⟨v0, vs0, d0, ds0, p0, q0, hargs, rfl, rfl, h0, r0⟩ := trodAll_cons hA
  obtain ⟨v1, vs1, d1, ds1, p1, q1, rfl, rfl, rfl, h1, r1⟩ := trodAll_cons r0
  obtain ⟨v2, vs2, d2, ds2, p2, q2, rfl, rfl, rfl, h2, r2⟩ := trodAll_cons r1
  obtain ⟨v3, vs3, d3, ds3, p3, q3, rfl, rfl, rfl, h3, r3⟩ := trodAll_cons r2
  obtain ⟨v4, vs4, d4, ds4, p4, q4, rfl, rfl, rfl, h4, r4⟩ := trodAll_cons r3
  obtain ⟨rfl, rfl, rfl⟩ := trodAll_nil r4
  obtain rfl : args = #[v0, v1, v2, v3, v4] := by cases args; simp_all
  obtain ⟨rfl, rfl⟩ := trodVars_none hV
  obtain ⟨a0, len0, cap0, rfl⟩ := okWide_slice Try.underlying25 (hval 0 25 v0 rfl rfl)
  have k0 := h0
  have lt0 : ∀ x ∈ p0, x.block < W.heap.size := by obtain ⟨m, hm⟩ := k0; exact DataW.trod_lt m _ _ _ hm
  obtain ⟨z0, w0, n0, m0, o0, f0⟩ : ∃ zs, Ints .u32 W a0 zs ∧ zs.length = len0 ∧ len0 ≤ cap0 ∧ cap0 ≤ maxLen ∧ (∀ x ∈ zs, (Lit.int .u32 x).wf = true) := by
    obtain ⟨fuel, hf⟩ := h0
    rcases open_ints Try.underlying25 Try.underlying49 (by kernel_rfl) hf with ⟨hcs, hx⟩ | ⟨x, l, c, zs, hcs, _, hl, hm, hz, hx, hcell, hwz⟩
    · simp [Value.cells] at hcs
      obtain ⟨rfl, rfl, rfl⟩ := hcs
      exact ⟨[], Row.nil _ _, rfl, Nat.le_refl _, Nat.zero_le _, (fun _ h => by cases h)⟩
    · simp [Value.cells] at hcs
      obtain ⟨rfl, rfl, rfl⟩ := hcs
      exact ⟨zs.take len0, ints_of hl (by simpa using hz) hcell, take_len hl (by simpa using hz), hl, hm, (fun x hx => hwz x (List.mem_of_mem_take hx))⟩
  have k1 := h1
  have lt1 : ∀ x ∈ p1, x.block < W.heap.size := by obtain ⟨m, hm⟩ := k1; exact DataW.trod_lt m _ _ _ hm
  obtain ⟨cs1, rfl, fl1⟩ := open_flat Try.underlying31 (show leaf Try.prog 6 31 = some [.int .u64, .int .u64, .int .u64, .int .u64, .int .u64, .int .u64, .int .u64, .int .u64, .int .u64] by kernel_rfl) (hval 1 31 v1 rfl rfl) h1
  obtain ⟨c1_0, us1, rfl, w1_0, fl1⟩ := fl1.int_
  obtain ⟨c1_1, us1, rfl, w1_1, fl1⟩ := fl1.int_
  obtain ⟨c1_2, us1, rfl, w1_2, fl1⟩ := fl1.int_
  obtain ⟨c1_3, us1, rfl, w1_3, fl1⟩ := fl1.int_
  obtain ⟨c1_4, us1, rfl, w1_4, fl1⟩ := fl1.int_
  obtain ⟨c1_5, us1, rfl, w1_5, fl1⟩ := fl1.int_
  obtain ⟨c1_6, us1, rfl, w1_6, fl1⟩ := fl1.int_
  obtain ⟨c1_7, us1, rfl, w1_7, fl1⟩ := fl1.int_
  obtain ⟨c1_8, us1, rfl, w1_8, fl1⟩ := fl1.int_
  obtain rfl := fl1.nil_
  obtain ⟨a2, rfl, rfl, rfl, w2⟩ := open_int Try.underlying22 (hval 2 22 v2 rfl rfl) h2
  obtain ⟨a3, rfl, rfl, rfl, w3⟩ := open_int Try.underlying22 (hval 3 22 v3 rfl rfl) h3
  obtain ⟨a4, rfl, rfl, rfl, w4⟩ := open_int Try.underlying22 (hval 4 22 v4 rfl rfl) h4
  clear hA0 hval0
  refine (walk a0 len0 cap0 z0 c1_0 c1_1 c1_2 c1_3 c1_4 c1_5 c1_6 c1_7 c1_8 a2 a3 a4 W w0 n0 m0 o0 f0 w1_0 w1_1 w1_2 w1_3 w1_4 w1_5 w1_6 w1_7 w1_8 w2 w3 w4).mono fun e W' ⟨he, bel⟩ => ?_
  subst he
  exact ⟨_, rfl, _, _, _, [], _, [], hW', trodAll_mk1 (shut_bool Try.underlying4 _), (trodAll_cons_mk (Below.trod laidOut (by kernel_rfl) (of_decide_eq_true (by kernel_rfl)) k0 bel lt0) (trodAll_cons_mk (Below.trod laidOut (by kernel_rfl) (of_decide_eq_true (by kernel_rfl)) k1 bel lt1) (trodAll_cons_mk (shut_int Try.underlying22 w2) (trodAll_cons_mk (shut_int Try.underlying22 w3) (trodAll_cons_mk (shut_int Try.underlying22 w4) trodAll_mk0))))), rfl, bel.frame _, fun h => by cases h⟩

theorem over : Rows.controlOnceRow.holds Try.pinned (OpenSpec.ofChange Rows.controlOnceSpec) :=
  OpenClaim.holds_of_wide 6 Try.f6 rfl rfl rfl rfl rfl rfl rfl ⟨rfl, rfl, rfl, rfl, rfl⟩ rfl rfl rfl rfl rfl (by kernel_rfl) Try.func6 (by kernel_rfl)
    (of_decide_eq_true (by kernel_rfl)) (by unfold Func.isWrapper; first | (rw [if_pos (by decide +kernel)]; kernel_rfl) | (rw [if_neg (by decide +kernel)]; exact ⟨rfl, rfl⟩))
    (fun os started H enc _ => lifted os started H enc)

/-- The given statement. -/
theorem proved : Rows.ControlOnceSaid :=
  over
#print axioms proved
end Go.Proofs.Ytnnpklnhdfpnjaa.controlOnce
