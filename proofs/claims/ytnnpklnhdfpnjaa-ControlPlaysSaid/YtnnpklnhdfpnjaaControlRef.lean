/-
  Contracts of the reference's controls: Start, Ack, Loss, Mark, Collapse.
-/
import Derived.Test.YtnnpklnhdfpnjaaControlPlain
import Derived.Test.YtnnpklnhdfpnjaaCubicRef
import Derived.Test.YtnnpklnhdfpnjaaRoundRef
import Derived.Test.YtnnpklnhdfpnjaaMid
set_option linter.unusedSimpArgs false
set_option linter.unusedVariables false
namespace Go.Proofs.Ytnnpklnhdfpnjaa.Control
set_option linter.unusedVariables false
set_option maxRecDepth 20000
open Go.ChangeShapes Go.WideShapes Go.ChangeAt Go.RowKit
open Go.Proofs.Ytnnpklnhdfpnjaa.Base Go.Proofs.Ytnnpklnhdfpnjaa.RenoPlain Go.Proofs.Ytnnpklnhdfpnjaa.CubicPlain Go.Proofs.Ytnnpklnhdfpnjaa.RoundPlain Go.Proofs.Ytnnpklnhdfpnjaa.ConfPlain Go.Proofs.Ytnnpklnhdfpnjaa.ControlPlain Go.Proofs.Ytnnpklnhdfpnjaa.Conf Go.Proofs.Ytnnpklnhdfpnjaa.Reno Go.Proofs.Ytnnpklnhdfpnjaa.Cubic Go.Proofs.Ytnnpklnhdfpnjaa.Hop

/-- A control's cells. -/
def kc (s : Kc) : Array Value := #[.int .u64 s.w.cw, .int .u64 s.w.th, .int .u64 s.w.ac, .int .u64 s.w.pk, .int .u64 s.w.ep, .int .u64 s.w.k, .int .u64 s.w.fr, .int .u64 s.d.end_, .int .u64 s.d.cuts]
def CcPost (w : World) (s : Kc) : Ending → World → Prop := fun e w' => e = .returned (.agg (kc s)) ∧ Below w.heap.size w w'
set_option maxHeartbeats 4000000 in
theorem ref_cutk (c : C) (hc : CFit c) (s : Wn) (hs : WFit s) (r q : Int) (hr : U r) (hq : U q) (w : World) :
    Calls Try.prog 31 #[.agg #[.int .i64 c.bits, .int .u64 c.one, .int .i64 c.ring, .int .u64 c.limit, .int .i64 c.room, .int .u64 c.mss, .int .u64 c.initial, .int .u64 c.least, .int .u64 c.most, .int .i64 c.algo, .int .u64 c.first, .int .u64 c.grain, .int .u64 c.cap, .int .u64 c.burst, .int .u64 c.slowest, .int .i64 c.chal, .int .u64 c.every], .agg (wc s), .int .u64 r, .int .u64 q] w (WinPost w (cutK c s r q)) := by
  have u20 : U 20 := ⟨by decide, by decide⟩
  unfold cutK
  by_cases h1 : c.algo = 1
  · rw [show cutV c s r q = cutR s r 20 by unfold cutV; rw [if_pos h1]]
    have CV := fun V => ref_cut s hs r 20 hr u20 V
    have h1' : (c.algo == 1) = true := by simpa using h1
    clear h1
    generalize cutR s r 20 = v at *
    obtain ⟨s0, s1, s2, s3, s4, s5, s6⟩ := s
    obtain ⟨q0, q1, q2, q3, q4, q5, q6⟩ := v
    unfold WinPost wc at *
    simp only at CV ⊢
    have CL := fun V => Sat.ref_clamp q0 c.least c.most V
    generalize Sat.clamp q0 c.least c.most = cl at *
    generalize hmx : max q1 c.least = mx at *
    have HM := Lib.hid hmx
    clear hmx
    go_enter Try.func31, Try.ntmps31
    go_upto_region 1 with fail
    refine at_any ?_
    intro W hW
    obtain ⟨cB, wB, oB, hL⟩ : Blk W w.heap.size #[.int .i64 c.bits, .int .u64 c.one, .int .i64 c.ring, .int .u64 c.limit, .int .i64 c.room, .int .u64 c.mss, .int .u64 c.initial, .int .u64 c.least, .int .u64 c.most, .int .i64 c.algo, .int .u64 c.first, .int .u64 c.grain, .int .u64 c.cap, .int .u64 c.burst, .int .u64 c.slowest, .int .i64 c.chal, .int .u64 c.every] 24 ∧ Blk W (w.heap.size + 1) #[.int .u64 s0, .int .u64 s1, .int .u64 s2, .int .u64 s3, .int .u64 s4, .int .u64 s5, .int .u64 s6] 27 ∧ Blk W (w.heap.size + 1 + 1) #[.int .u64 0, .int .u64 0, .int .u64 0, .int .u64 0, .int .u64 0, .int .u64 0, .int .u64 0] 27 ∧ Below w.heap.size w W := by
      have h0 := Blk.new (w) #[.int .i64 c.bits, .int .u64 c.one, .int .i64 c.ring, .int .u64 c.limit, .int .i64 c.room, .int .u64 c.mss, .int .u64 c.initial, .int .u64 c.least, .int .u64 c.most, .int .i64 c.algo, .int .u64 c.first, .int .u64 c.grain, .int .u64 c.cap, .int .u64 c.burst, .int .u64 c.slowest, .int .i64 c.chal, .int .u64 c.every] 24
      have h1 := Blk.new (World.alloc (w) (.cells #[.int .i64 c.bits, .int .u64 c.one, .int .i64 c.ring, .int .u64 c.limit, .int .i64 c.room, .int .u64 c.mss, .int .u64 c.initial, .int .u64 c.least, .int .u64 c.most, .int .i64 c.algo, .int .u64 c.first, .int .u64 c.grain, .int .u64 c.cap, .int .u64 c.burst, .int .u64 c.slowest, .int .i64 c.chal, .int .u64 c.every] 24)) #[.int .u64 s0, .int .u64 s1, .int .u64 s2, .int .u64 s3, .int .u64 s4, .int .u64 s5, .int .u64 s6] 27
      have h2 := Blk.new (World.alloc (World.alloc (w) (.cells #[.int .i64 c.bits, .int .u64 c.one, .int .i64 c.ring, .int .u64 c.limit, .int .i64 c.room, .int .u64 c.mss, .int .u64 c.initial, .int .u64 c.least, .int .u64 c.most, .int .i64 c.algo, .int .u64 c.first, .int .u64 c.grain, .int .u64 c.cap, .int .u64 c.burst, .int .u64 c.slowest, .int .i64 c.chal, .int .u64 c.every] 24)) (.cells #[.int .u64 s0, .int .u64 s1, .int .u64 s2, .int .u64 s3, .int .u64 s4, .int .u64 s5, .int .u64 s6] 27)) #[.int .u64 0, .int .u64 0, .int .u64 0, .int .u64 0, .int .u64 0, .int .u64 0, .int .u64 0] 27
      simp only [World.size_alloc] at h1 h2
      subst hW
      exact ⟨((h0.alloc _).alloc _), (h1.alloc _), h2, ((((Below.refl _ _).alloc (Nat.le_refl _) _).alloc (by simp only [World.size_alloc]; omega) _).alloc (by simp only [World.size_alloc]; omega) _)⟩
    clear hW
    generalize hb_oB : w.heap.size + 1 + 1 = b_oB at *
    generalize hb_wB : w.heap.size + 1 = b_wB at *
    have lt_cB := cB.lt
    have cB_9 : _ = some (Value.int .i64 c.algo) := cB.cell 9
    have lt_wB := wB.lt
    have wB_0 : _ = some (Value.int .u64 s0) := wB.cell 0
    have wB_1 : _ = some (Value.int .u64 s1) := wB.cell 1
    have wB_2 : _ = some (Value.int .u64 s2) := wB.cell 2
    have wB_3 : _ = some (Value.int .u64 s3) := wB.cell 3
    have wB_4 : _ = some (Value.int .u64 s4) := wB.cell 4
    have wB_5 : _ = some (Value.int .u64 s5) := wB.cell 5
    have wB_6 : _ = some (Value.int .u64 s6) := wB.cell 6
    have lt_oB := oB.lt
    go_upto_region 4 with (first
      | (go_at_call 51; refine (CV _).mono ?_; rintro x' y ⟨rfl, L1⟩; replace cB := cB.below L1 lt_cB; replace wB := wB.below L1 lt_wB; replace oB := oB.below L1 lt_oB; replace hL := Base.next hL L1; replace lt_cB := cB.lt; replace lt_wB := wB.lt; replace lt_oB := oB.lt)
      | (refine wpl_store_row rfl 27 (.tmp 5) (.tmp 14) rfl wB #[.int .u64 q0, .int .u64 q1, .int .u64 q2, .int .u64 q3, .int .u64 q4, .int .u64 q5, .int .u64 q6] rfl rfl (by kernel_rfl) rfl (by simp [Value.oneCell']) ?_))
    refine at_any ?_
    intro X hX
    obtain ⟨cB', wB', oB', hL'⟩ : Blk X w.heap.size #[.int .i64 c.bits, .int .u64 c.one, .int .i64 c.ring, .int .u64 c.limit, .int .i64 c.room, .int .u64 c.mss, .int .u64 c.initial, .int .u64 c.least, .int .u64 c.most, .int .i64 c.algo, .int .u64 c.first, .int .u64 c.grain, .int .u64 c.cap, .int .u64 c.burst, .int .u64 c.slowest, .int .i64 c.chal, .int .u64 c.every] 24 ∧ Blk X b_wB #[.int .u64 q0, .int .u64 q1, .int .u64 q2, .int .u64 q3, .int .u64 q4, .int .u64 q5, .int .u64 q6] 27 ∧ Blk X b_oB #[.int .u64 0, .int .u64 0, .int .u64 0, .int .u64 0, .int .u64 0, .int .u64 0, .int .u64 0] 27 ∧ Below w.heap.size w X := by
      subst hX
      exact ⟨cB.otherRow (show w.heap.size ≠ b_wB by omega) _, wB.setRow _, oB.otherRow (show b_oB ≠ b_wB by omega) _, below_setRow' hL (show w.heap.size ≤ b_wB by omega)⟩
    clear hX cB wB oB hL
    clear lt_cB cB_9 lt_wB wB_0 wB_1 wB_2 wB_3 wB_4 wB_5 wB_6 lt_oB
    have cB := cB'
    have wB := wB'
    have oB := oB'
    have hL := hL'
    clear cB' wB' oB' hL'
    have lt_cB := cB.lt
    have cB_7 : _ = some (Value.int .u64 c.least) := cB.cell 7
    have cB_8 : _ = some (Value.int .u64 c.most) := cB.cell 8
    have lt_wB := wB.lt
    have wB_0 : _ = some (Value.int .u64 q0) := wB.cell 0
    have wB_z0 := wB.free 0
    have lt_oB := oB.lt
    go_upto_region 5 with (go_at_call 27; refine (CL _).mono ?_; rintro x' y ⟨rfl, rfl⟩)
    refine at_any ?_
    intro X hX
    obtain ⟨cB', wB', oB', hL'⟩ : Blk X w.heap.size #[.int .i64 c.bits, .int .u64 c.one, .int .i64 c.ring, .int .u64 c.limit, .int .i64 c.room, .int .u64 c.mss, .int .u64 c.initial, .int .u64 c.least, .int .u64 c.most, .int .i64 c.algo, .int .u64 c.first, .int .u64 c.grain, .int .u64 c.cap, .int .u64 c.burst, .int .u64 c.slowest, .int .i64 c.chal, .int .u64 c.every] 24 ∧ Blk X b_wB #[.int .u64 cl, .int .u64 q1, .int .u64 q2, .int .u64 q3, .int .u64 q4, .int .u64 q5, .int .u64 q6] 27 ∧ Blk X b_oB #[.int .u64 0, .int .u64 0, .int .u64 0, .int .u64 0, .int .u64 0, .int .u64 0, .int .u64 0] 27 ∧ Below w.heap.size w X := by
      subst hX
      exact ⟨cB.other (show w.heap.size ≠ b_wB by omega) _, wB.set 0 (.int .u64 cl), oB.other (show b_oB ≠ b_wB by omega) _, hL.setCell (show w.heap.size ≤ b_wB by omega) _⟩
    clear hX cB wB oB hL
    clear lt_cB cB_7 cB_8 lt_wB wB_0 wB_z0 lt_oB
    have cB := cB'
    have wB := wB'
    have oB := oB'
    have hL := hL'
    clear cB' wB' oB' hL'
    have lt_cB := cB.lt
    have cB_7 : _ = some (Value.int .u64 c.least) := cB.cell 7
    have lt_wB := wB.lt
    have wB_1 : _ = some (Value.int .u64 q1) := wB.cell 1
    have wB_z1 := wB.free 1
    have lt_oB := oB.lt
    go_upto_region 6 with (refine wpl_value (v := .int .u64 mx) rfl (by rw [← HM.out]; exact mx_u64 (.tmp 27) (.tmp 29) _ (n := q1) (m := c.least) rfl rfl rfl) ?_)
    refine at_any ?_
    intro X hX
    obtain ⟨cB', wB', oB', hL'⟩ : Blk X w.heap.size #[.int .i64 c.bits, .int .u64 c.one, .int .i64 c.ring, .int .u64 c.limit, .int .i64 c.room, .int .u64 c.mss, .int .u64 c.initial, .int .u64 c.least, .int .u64 c.most, .int .i64 c.algo, .int .u64 c.first, .int .u64 c.grain, .int .u64 c.cap, .int .u64 c.burst, .int .u64 c.slowest, .int .i64 c.chal, .int .u64 c.every] 24 ∧ Blk X b_wB #[.int .u64 cl, .int .u64 mx, .int .u64 q2, .int .u64 q3, .int .u64 q4, .int .u64 q5, .int .u64 q6] 27 ∧ Blk X b_oB #[.int .u64 0, .int .u64 0, .int .u64 0, .int .u64 0, .int .u64 0, .int .u64 0, .int .u64 0] 27 ∧ Below w.heap.size w X := by
      subst hX
      exact ⟨cB.other (show w.heap.size ≠ b_wB by omega) _, wB.set 1 (.int .u64 mx), oB.other (show b_oB ≠ b_wB by omega) _, hL.setCell (show w.heap.size ≤ b_wB by omega) _⟩
    clear hX cB wB oB hL
    clear lt_cB cB_7 lt_wB wB_1 wB_z1 lt_oB
    have cB := cB'
    have wB := wB'
    have oB := oB'
    have hL := hL'
    clear cB' wB' oB' hL'
    have lt_cB := cB.lt
    have lt_wB := wB.lt
    have wB_0 : _ = some (Value.int .u64 cl) := wB.cell 0
    have wB_1 : _ = some (Value.int .u64 mx) := wB.cell 1
    have wB_2 : _ = some (Value.int .u64 q2) := wB.cell 2
    have wB_3 : _ = some (Value.int .u64 q3) := wB.cell 3
    have wB_4 : _ = some (Value.int .u64 q4) := wB.cell 4
    have wB_5 : _ = some (Value.int .u64 q5) := wB.cell 5
    have wB_6 : _ = some (Value.int .u64 q6) := wB.cell 6
    have lt_oB := oB.lt
    go_wp2_with (refine wpl_store_row rfl 27 (.tmp 8) (.tmp 32) rfl oB #[.int .u64 cl, .int .u64 mx, .int .u64 q2, .int .u64 q3, .int .u64 q4, .int .u64 q5, .int .u64 q6] rfl rfl (by kernel_rfl) rfl (by simp [Value.oneCell']) ?_)
    refine bodyPost_ret (results_cell_row rfl _ _ b_oB 27 #[.int .u64 cl, .int .u64 mx, .int .u64 q2, .int .u64 q3, .int .u64 q4, .int .u64 q5, .int .u64 q6] (0, 0) _ rfl (oB.setRow _) Try.underlying27 rfl (by kernel_rfl)) rfl ?_
    exact ⟨rfl, below_setRow' hL (by omega)⟩
  · rw [show cutV c s r q = cutC s q 20 by unfold cutV; rw [if_neg h1]]
    have CV := fun V => ref_cutc s hs q 20 hq u20 V
    have h1' : (c.algo == 1) = false := by simpa using h1
    clear h1
    generalize cutC s q 20 = v at *
    obtain ⟨s0, s1, s2, s3, s4, s5, s6⟩ := s
    obtain ⟨q0, q1, q2, q3, q4, q5, q6⟩ := v
    unfold WinPost wc at *
    simp only at CV ⊢
    have CL := fun V => Sat.ref_clamp q0 c.least c.most V
    generalize Sat.clamp q0 c.least c.most = cl at *
    generalize hmx : max q1 c.least = mx at *
    have HM := Lib.hid hmx
    clear hmx
    go_enter Try.func31, Try.ntmps31
    go_upto_region 1 with fail
    refine at_any ?_
    intro W hW
    obtain ⟨cB, wB, oB, hL⟩ : Blk W w.heap.size #[.int .i64 c.bits, .int .u64 c.one, .int .i64 c.ring, .int .u64 c.limit, .int .i64 c.room, .int .u64 c.mss, .int .u64 c.initial, .int .u64 c.least, .int .u64 c.most, .int .i64 c.algo, .int .u64 c.first, .int .u64 c.grain, .int .u64 c.cap, .int .u64 c.burst, .int .u64 c.slowest, .int .i64 c.chal, .int .u64 c.every] 24 ∧ Blk W (w.heap.size + 1) #[.int .u64 s0, .int .u64 s1, .int .u64 s2, .int .u64 s3, .int .u64 s4, .int .u64 s5, .int .u64 s6] 27 ∧ Blk W (w.heap.size + 1 + 1) #[.int .u64 0, .int .u64 0, .int .u64 0, .int .u64 0, .int .u64 0, .int .u64 0, .int .u64 0] 27 ∧ Below w.heap.size w W := by
      have h0 := Blk.new (w) #[.int .i64 c.bits, .int .u64 c.one, .int .i64 c.ring, .int .u64 c.limit, .int .i64 c.room, .int .u64 c.mss, .int .u64 c.initial, .int .u64 c.least, .int .u64 c.most, .int .i64 c.algo, .int .u64 c.first, .int .u64 c.grain, .int .u64 c.cap, .int .u64 c.burst, .int .u64 c.slowest, .int .i64 c.chal, .int .u64 c.every] 24
      have h1 := Blk.new (World.alloc (w) (.cells #[.int .i64 c.bits, .int .u64 c.one, .int .i64 c.ring, .int .u64 c.limit, .int .i64 c.room, .int .u64 c.mss, .int .u64 c.initial, .int .u64 c.least, .int .u64 c.most, .int .i64 c.algo, .int .u64 c.first, .int .u64 c.grain, .int .u64 c.cap, .int .u64 c.burst, .int .u64 c.slowest, .int .i64 c.chal, .int .u64 c.every] 24)) #[.int .u64 s0, .int .u64 s1, .int .u64 s2, .int .u64 s3, .int .u64 s4, .int .u64 s5, .int .u64 s6] 27
      have h2 := Blk.new (World.alloc (World.alloc (w) (.cells #[.int .i64 c.bits, .int .u64 c.one, .int .i64 c.ring, .int .u64 c.limit, .int .i64 c.room, .int .u64 c.mss, .int .u64 c.initial, .int .u64 c.least, .int .u64 c.most, .int .i64 c.algo, .int .u64 c.first, .int .u64 c.grain, .int .u64 c.cap, .int .u64 c.burst, .int .u64 c.slowest, .int .i64 c.chal, .int .u64 c.every] 24)) (.cells #[.int .u64 s0, .int .u64 s1, .int .u64 s2, .int .u64 s3, .int .u64 s4, .int .u64 s5, .int .u64 s6] 27)) #[.int .u64 0, .int .u64 0, .int .u64 0, .int .u64 0, .int .u64 0, .int .u64 0, .int .u64 0] 27
      simp only [World.size_alloc] at h1 h2
      subst hW
      exact ⟨((h0.alloc _).alloc _), (h1.alloc _), h2, ((((Below.refl _ _).alloc (Nat.le_refl _) _).alloc (by simp only [World.size_alloc]; omega) _).alloc (by simp only [World.size_alloc]; omega) _)⟩
    clear hW
    generalize hb_oB : w.heap.size + 1 + 1 = b_oB at *
    generalize hb_wB : w.heap.size + 1 = b_wB at *
    have lt_cB := cB.lt
    have cB_9 : _ = some (Value.int .i64 c.algo) := cB.cell 9
    have lt_wB := wB.lt
    have wB_0 : _ = some (Value.int .u64 s0) := wB.cell 0
    have wB_1 : _ = some (Value.int .u64 s1) := wB.cell 1
    have wB_2 : _ = some (Value.int .u64 s2) := wB.cell 2
    have wB_3 : _ = some (Value.int .u64 s3) := wB.cell 3
    have wB_4 : _ = some (Value.int .u64 s4) := wB.cell 4
    have wB_5 : _ = some (Value.int .u64 s5) := wB.cell 5
    have wB_6 : _ = some (Value.int .u64 s6) := wB.cell 6
    have lt_oB := oB.lt
    go_upto_region 4 with (first
      | (go_at_call 52; refine (CV _).mono ?_; rintro x' y ⟨rfl, L1⟩; replace cB := cB.below L1 lt_cB; replace wB := wB.below L1 lt_wB; replace oB := oB.below L1 lt_oB; replace hL := Base.next hL L1; replace lt_cB := cB.lt; replace lt_wB := wB.lt; replace lt_oB := oB.lt)
      | (refine wpl_store_row rfl 27 (.tmp 5) (.tmp 17) rfl wB #[.int .u64 q0, .int .u64 q1, .int .u64 q2, .int .u64 q3, .int .u64 q4, .int .u64 q5, .int .u64 q6] rfl rfl (by kernel_rfl) rfl (by simp [Value.oneCell']) ?_))
    refine at_any ?_
    intro X hX
    obtain ⟨cB', wB', oB', hL'⟩ : Blk X w.heap.size #[.int .i64 c.bits, .int .u64 c.one, .int .i64 c.ring, .int .u64 c.limit, .int .i64 c.room, .int .u64 c.mss, .int .u64 c.initial, .int .u64 c.least, .int .u64 c.most, .int .i64 c.algo, .int .u64 c.first, .int .u64 c.grain, .int .u64 c.cap, .int .u64 c.burst, .int .u64 c.slowest, .int .i64 c.chal, .int .u64 c.every] 24 ∧ Blk X b_wB #[.int .u64 q0, .int .u64 q1, .int .u64 q2, .int .u64 q3, .int .u64 q4, .int .u64 q5, .int .u64 q6] 27 ∧ Blk X b_oB #[.int .u64 0, .int .u64 0, .int .u64 0, .int .u64 0, .int .u64 0, .int .u64 0, .int .u64 0] 27 ∧ Below w.heap.size w X := by
      subst hX
      exact ⟨cB.otherRow (show w.heap.size ≠ b_wB by omega) _, wB.setRow _, oB.otherRow (show b_oB ≠ b_wB by omega) _, below_setRow' hL (show w.heap.size ≤ b_wB by omega)⟩
    clear hX cB wB oB hL
    clear lt_cB cB_9 lt_wB wB_0 wB_1 wB_2 wB_3 wB_4 wB_5 wB_6 lt_oB
    have cB := cB'
    have wB := wB'
    have oB := oB'
    have hL := hL'
    clear cB' wB' oB' hL'
    have lt_cB := cB.lt
    have cB_7 : _ = some (Value.int .u64 c.least) := cB.cell 7
    have cB_8 : _ = some (Value.int .u64 c.most) := cB.cell 8
    have lt_wB := wB.lt
    have wB_0 : _ = some (Value.int .u64 q0) := wB.cell 0
    have wB_z0 := wB.free 0
    have lt_oB := oB.lt
    go_upto_region 5 with (go_at_call 27; refine (CL _).mono ?_; rintro x' y ⟨rfl, rfl⟩)
    refine at_any ?_
    intro X hX
    obtain ⟨cB', wB', oB', hL'⟩ : Blk X w.heap.size #[.int .i64 c.bits, .int .u64 c.one, .int .i64 c.ring, .int .u64 c.limit, .int .i64 c.room, .int .u64 c.mss, .int .u64 c.initial, .int .u64 c.least, .int .u64 c.most, .int .i64 c.algo, .int .u64 c.first, .int .u64 c.grain, .int .u64 c.cap, .int .u64 c.burst, .int .u64 c.slowest, .int .i64 c.chal, .int .u64 c.every] 24 ∧ Blk X b_wB #[.int .u64 cl, .int .u64 q1, .int .u64 q2, .int .u64 q3, .int .u64 q4, .int .u64 q5, .int .u64 q6] 27 ∧ Blk X b_oB #[.int .u64 0, .int .u64 0, .int .u64 0, .int .u64 0, .int .u64 0, .int .u64 0, .int .u64 0] 27 ∧ Below w.heap.size w X := by
      subst hX
      exact ⟨cB.other (show w.heap.size ≠ b_wB by omega) _, wB.set 0 (.int .u64 cl), oB.other (show b_oB ≠ b_wB by omega) _, hL.setCell (show w.heap.size ≤ b_wB by omega) _⟩
    clear hX cB wB oB hL
    clear lt_cB cB_7 cB_8 lt_wB wB_0 wB_z0 lt_oB
    have cB := cB'
    have wB := wB'
    have oB := oB'
    have hL := hL'
    clear cB' wB' oB' hL'
    have lt_cB := cB.lt
    have cB_7 : _ = some (Value.int .u64 c.least) := cB.cell 7
    have lt_wB := wB.lt
    have wB_1 : _ = some (Value.int .u64 q1) := wB.cell 1
    have wB_z1 := wB.free 1
    have lt_oB := oB.lt
    go_upto_region 6 with (refine wpl_value (v := .int .u64 mx) rfl (by rw [← HM.out]; exact mx_u64 (.tmp 27) (.tmp 29) _ (n := q1) (m := c.least) rfl rfl rfl) ?_)
    refine at_any ?_
    intro X hX
    obtain ⟨cB', wB', oB', hL'⟩ : Blk X w.heap.size #[.int .i64 c.bits, .int .u64 c.one, .int .i64 c.ring, .int .u64 c.limit, .int .i64 c.room, .int .u64 c.mss, .int .u64 c.initial, .int .u64 c.least, .int .u64 c.most, .int .i64 c.algo, .int .u64 c.first, .int .u64 c.grain, .int .u64 c.cap, .int .u64 c.burst, .int .u64 c.slowest, .int .i64 c.chal, .int .u64 c.every] 24 ∧ Blk X b_wB #[.int .u64 cl, .int .u64 mx, .int .u64 q2, .int .u64 q3, .int .u64 q4, .int .u64 q5, .int .u64 q6] 27 ∧ Blk X b_oB #[.int .u64 0, .int .u64 0, .int .u64 0, .int .u64 0, .int .u64 0, .int .u64 0, .int .u64 0] 27 ∧ Below w.heap.size w X := by
      subst hX
      exact ⟨cB.other (show w.heap.size ≠ b_wB by omega) _, wB.set 1 (.int .u64 mx), oB.other (show b_oB ≠ b_wB by omega) _, hL.setCell (show w.heap.size ≤ b_wB by omega) _⟩
    clear hX cB wB oB hL
    clear lt_cB cB_7 lt_wB wB_1 wB_z1 lt_oB
    have cB := cB'
    have wB := wB'
    have oB := oB'
    have hL := hL'
    clear cB' wB' oB' hL'
    have lt_cB := cB.lt
    have lt_wB := wB.lt
    have wB_0 : _ = some (Value.int .u64 cl) := wB.cell 0
    have wB_1 : _ = some (Value.int .u64 mx) := wB.cell 1
    have wB_2 : _ = some (Value.int .u64 q2) := wB.cell 2
    have wB_3 : _ = some (Value.int .u64 q3) := wB.cell 3
    have wB_4 : _ = some (Value.int .u64 q4) := wB.cell 4
    have wB_5 : _ = some (Value.int .u64 q5) := wB.cell 5
    have wB_6 : _ = some (Value.int .u64 q6) := wB.cell 6
    have lt_oB := oB.lt
    go_wp2_with (refine wpl_store_row rfl 27 (.tmp 8) (.tmp 32) rfl oB #[.int .u64 cl, .int .u64 mx, .int .u64 q2, .int .u64 q3, .int .u64 q4, .int .u64 q5, .int .u64 q6] rfl rfl (by kernel_rfl) rfl (by simp [Value.oneCell']) ?_)
    refine bodyPost_ret (results_cell_row rfl _ _ b_oB 27 #[.int .u64 cl, .int .u64 mx, .int .u64 q2, .int .u64 q3, .int .u64 q4, .int .u64 q5, .int .u64 q6] (0, 0) _ rfl (oB.setRow _) Try.underlying27 rfl (by kernel_rfl)) rfl ?_
    exact ⟨rfl, below_setRow' hL (by omega)⟩
set_option maxHeartbeats 2000000 in
theorem ref_start (c : C) (hc : CFit c) (w : World) :
    Calls Try.prog 12 #[.agg #[.int .i64 c.bits, .int .u64 c.one, .int .i64 c.ring, .int .u64 c.limit, .int .i64 c.room, .int .u64 c.mss, .int .u64 c.initial, .int .u64 c.least, .int .u64 c.most, .int .i64 c.algo, .int .u64 c.first, .int .u64 c.grain, .int .u64 c.cap, .int .u64 c.burst, .int .u64 c.slowest, .int .i64 c.chal, .int .u64 c.every]] w (CcPost w (startK c)) := by
  have CK := fun V => ref_check c hc.mss.1 hc.mss.2 V
  unfold CcPost startK
  by_cases h0 : pos (flags c) = 0
  · rw [h0] at CK
    rw [if_pos h0]
    unfold firstK kc
    simp only
    go_enter Try.func12, Try.ntmps12
    go_upto_region 1 with fail
    refine at_any ?_
    intro W hW
    obtain ⟨cB, oB, hL⟩ : Blk W w.heap.size #[.int .i64 c.bits, .int .u64 c.one, .int .i64 c.ring, .int .u64 c.limit, .int .i64 c.room, .int .u64 c.mss, .int .u64 c.initial, .int .u64 c.least, .int .u64 c.most, .int .i64 c.algo, .int .u64 c.first, .int .u64 c.grain, .int .u64 c.cap, .int .u64 c.burst, .int .u64 c.slowest, .int .i64 c.chal, .int .u64 c.every] 24 ∧ Blk W (w.heap.size + 1) #[.int .u64 0, .int .u64 0, .int .u64 0, .int .u64 0, .int .u64 0, .int .u64 0, .int .u64 0, .int .u64 0, .int .u64 0] 31 ∧ Below w.heap.size w W := by
      have h0 := Blk.new (w) #[.int .i64 c.bits, .int .u64 c.one, .int .i64 c.ring, .int .u64 c.limit, .int .i64 c.room, .int .u64 c.mss, .int .u64 c.initial, .int .u64 c.least, .int .u64 c.most, .int .i64 c.algo, .int .u64 c.first, .int .u64 c.grain, .int .u64 c.cap, .int .u64 c.burst, .int .u64 c.slowest, .int .i64 c.chal, .int .u64 c.every] 24
      have h1 := Blk.new (World.alloc (w) (.cells #[.int .i64 c.bits, .int .u64 c.one, .int .i64 c.ring, .int .u64 c.limit, .int .i64 c.room, .int .u64 c.mss, .int .u64 c.initial, .int .u64 c.least, .int .u64 c.most, .int .i64 c.algo, .int .u64 c.first, .int .u64 c.grain, .int .u64 c.cap, .int .u64 c.burst, .int .u64 c.slowest, .int .i64 c.chal, .int .u64 c.every] 24)) #[.int .u64 0, .int .u64 0, .int .u64 0, .int .u64 0, .int .u64 0, .int .u64 0, .int .u64 0, .int .u64 0, .int .u64 0] 31
      simp only [World.size_alloc] at h1
      subst hW
      exact ⟨(h0.alloc _), h1, (((Below.refl _ _).alloc (Nat.le_refl _) _).alloc (by simp only [World.size_alloc]; omega) _)⟩
    clear hW
    generalize hb_oB : w.heap.size + 1 = b_oB at *
    have lt_cB := cB.lt
    have lt_oB := oB.lt
    go_upto_region 3 with (first | (refine wpl_load_row (by rfl) 24 (.tmp 1) rfl w.heap.size rfl 24 #[.int .i64 c.bits, .int .u64 c.one, .int .i64 c.ring, .int .u64 c.limit, .int .i64 c.room, .int .u64 c.mss, .int .u64 c.initial, .int .u64 c.least, .int .u64 c.most, .int .i64 c.algo, .int .u64 c.first, .int .u64 c.grain, .int .u64 c.cap, .int .u64 c.burst, .int .u64 c.slowest, .int .i64 c.chal, .int .u64 c.every] (0, 0) _ cB Try.underlying24 rfl (by kernel_rfl) ?_) | (go_at_call 24; refine (CK _).mono ?_; rintro x' y0 ⟨rfl, L0⟩; replace cB := cB.below L0 lt_cB; replace oB := oB.below L0 lt_oB; replace hL := Base.next hL L0; replace lt_cB := cB.lt; replace lt_oB := oB.lt; have cB_6 : _ = some (Value.int .u64 c.initial) := cB.cell 6))
    go_wp2_with (refine wpl_store_row rfl 31 (.tmp 2) (.tmp 10) rfl oB #[.int .u64 c.initial, .int .u64 18446744073709551615, .int .u64 0, .int .u64 0, .int .u64 18446744073709551615, .int .u64 0, .int .u64 0, .int .u64 0, .int .u64 0] rfl rfl (by kernel_rfl) rfl (by simp [Value.oneCell']) ?_)
    refine bodyPost_ret (results_cell_row rfl _ _ b_oB 31 #[.int .u64 c.initial, .int .u64 18446744073709551615, .int .u64 0, .int .u64 0, .int .u64 18446744073709551615, .int .u64 0, .int .u64 0, .int .u64 0, .int .u64 0] (0, 0) _ rfl (oB.setRow _) Try.underlying31 rfl (by kernel_rfl)) rfl ?_
    exact ⟨rfl, below_setRow' hL (by omega)⟩
  · rw [if_neg h0]
    have h0' : (pos (flags c) != 0) = true := by simpa using h0
    generalize pos (flags c) = vd at *
    unfold zeroK kc
    simp only
    go_enter Try.func12, Try.ntmps12
    go_upto_region 1 with fail
    refine at_any ?_
    intro W hW
    obtain ⟨cB, oB, hL⟩ : Blk W w.heap.size #[.int .i64 c.bits, .int .u64 c.one, .int .i64 c.ring, .int .u64 c.limit, .int .i64 c.room, .int .u64 c.mss, .int .u64 c.initial, .int .u64 c.least, .int .u64 c.most, .int .i64 c.algo, .int .u64 c.first, .int .u64 c.grain, .int .u64 c.cap, .int .u64 c.burst, .int .u64 c.slowest, .int .i64 c.chal, .int .u64 c.every] 24 ∧ Blk W (w.heap.size + 1) #[.int .u64 0, .int .u64 0, .int .u64 0, .int .u64 0, .int .u64 0, .int .u64 0, .int .u64 0, .int .u64 0, .int .u64 0] 31 ∧ Below w.heap.size w W := by
      have h0 := Blk.new (w) #[.int .i64 c.bits, .int .u64 c.one, .int .i64 c.ring, .int .u64 c.limit, .int .i64 c.room, .int .u64 c.mss, .int .u64 c.initial, .int .u64 c.least, .int .u64 c.most, .int .i64 c.algo, .int .u64 c.first, .int .u64 c.grain, .int .u64 c.cap, .int .u64 c.burst, .int .u64 c.slowest, .int .i64 c.chal, .int .u64 c.every] 24
      have h1 := Blk.new (World.alloc (w) (.cells #[.int .i64 c.bits, .int .u64 c.one, .int .i64 c.ring, .int .u64 c.limit, .int .i64 c.room, .int .u64 c.mss, .int .u64 c.initial, .int .u64 c.least, .int .u64 c.most, .int .i64 c.algo, .int .u64 c.first, .int .u64 c.grain, .int .u64 c.cap, .int .u64 c.burst, .int .u64 c.slowest, .int .i64 c.chal, .int .u64 c.every] 24)) #[.int .u64 0, .int .u64 0, .int .u64 0, .int .u64 0, .int .u64 0, .int .u64 0, .int .u64 0, .int .u64 0, .int .u64 0] 31
      simp only [World.size_alloc] at h1
      subst hW
      exact ⟨(h0.alloc _), h1, (((Below.refl _ _).alloc (Nat.le_refl _) _).alloc (by simp only [World.size_alloc]; omega) _)⟩
    clear hW
    generalize hb_oB : w.heap.size + 1 = b_oB at *
    have lt_cB := cB.lt
    have lt_oB := oB.lt
    go_upto_region 2 with (first | (refine wpl_load_row (by rfl) 24 (.tmp 1) rfl w.heap.size rfl 24 #[.int .i64 c.bits, .int .u64 c.one, .int .i64 c.ring, .int .u64 c.limit, .int .i64 c.room, .int .u64 c.mss, .int .u64 c.initial, .int .u64 c.least, .int .u64 c.most, .int .i64 c.algo, .int .u64 c.first, .int .u64 c.grain, .int .u64 c.cap, .int .u64 c.burst, .int .u64 c.slowest, .int .i64 c.chal, .int .u64 c.every] (0, 0) _ cB Try.underlying24 rfl (by kernel_rfl) ?_) | (go_at_call 24; refine (CK _).mono ?_; rintro x' y0 ⟨rfl, L0⟩; replace cB := cB.below L0 lt_cB; replace oB := oB.below L0 lt_oB; replace hL := Base.next hL L0; replace lt_cB := cB.lt; replace lt_oB := oB.lt; have cB_6 : _ = some (Value.int .u64 c.initial) := cB.cell 6))
    go_wp2_with (refine wpl_store_row rfl 31 (.tmp 2) (.tmp 6) rfl oB #[.int .u64 0, .int .u64 0, .int .u64 0, .int .u64 0, .int .u64 0, .int .u64 0, .int .u64 0, .int .u64 0, .int .u64 0] rfl rfl (by kernel_rfl) rfl (by simp [Value.oneCell']) ?_)
    refine bodyPost_ret (results_cell_row rfl _ _ b_oB 31 #[.int .u64 0, .int .u64 0, .int .u64 0, .int .u64 0, .int .u64 0, .int .u64 0, .int .u64 0, .int .u64 0, .int .u64 0] (0, 0) _ rfl (oB.setRow _) Try.underlying31 rfl (by kernel_rfl)) rfl ?_
    exact ⟨rfl, below_setRow' hL (by omega)⟩
set_option maxHeartbeats 4000000 in
theorem ref_ack (c : C) (hc : CFit c) (s : Kc) (hs : KFit s) (acked now smooth : Int) (ha : U acked) (hn : U now) (hm : U smooth) (w : World) :
    Calls Try.prog 10 #[.agg #[.int .i64 c.bits, .int .u64 c.one, .int .i64 c.ring, .int .u64 c.limit, .int .i64 c.room, .int .u64 c.mss, .int .u64 c.initial, .int .u64 c.least, .int .u64 c.most, .int .i64 c.algo, .int .u64 c.first, .int .u64 c.grain, .int .u64 c.cap, .int .u64 c.burst, .int .u64 c.slowest, .int .i64 c.chal, .int .u64 c.every], .agg (kc s), .int .u64 acked, .int .u64 now, .int .u64 smooth] w (CcPost w (ackK c s acked now smooth)) := by
  have CK := fun V => ref_check c hc.mss.1 hc.mss.2 V
  unfold CcPost ackK
  by_cases h0 : pos (flags c) = 0
  · rw [h0] at CK
    rw [if_pos h0]
    unfold growK clampW
    by_cases h1 : c.algo = 1
    · rw [if_pos h1]
      have h1' : (c.algo == 1) = true := by simpa using h1
      clear h1
      have CG := fun V => Reno.ref_grow s.w hs.w acked c.mss ha hc.mss V
      generalize growR s.w acked c.mss = v at *
      obtain ⟨⟨s0, s1, s2, s3, s4, s5, s6⟩, ⟨e, k⟩⟩ := s
      obtain ⟨q0, q1, q2, q3, q4, q5, q6⟩ := v
      unfold WinPost wc at CG
      unfold kc
      simp only at CG ⊢
      have CL := fun V => Sat.ref_clamp q0 c.least c.most V
      generalize Sat.clamp q0 c.least c.most = cl at *
      go_enter Try.func10, Try.ntmps10
      go_upto_region 1 with fail
      refine at_any ?_
      intro W hW
      obtain ⟨cB, sB, oB, hL⟩ : Blk W w.heap.size #[.int .i64 c.bits, .int .u64 c.one, .int .i64 c.ring, .int .u64 c.limit, .int .i64 c.room, .int .u64 c.mss, .int .u64 c.initial, .int .u64 c.least, .int .u64 c.most, .int .i64 c.algo, .int .u64 c.first, .int .u64 c.grain, .int .u64 c.cap, .int .u64 c.burst, .int .u64 c.slowest, .int .i64 c.chal, .int .u64 c.every] 24 ∧ Blk W (w.heap.size + 1) #[.int .u64 s0, .int .u64 s1, .int .u64 s2, .int .u64 s3, .int .u64 s4, .int .u64 s5, .int .u64 s6, .int .u64 e, .int .u64 k] 31 ∧ Blk W (w.heap.size + 1 + 1) #[.int .u64 0, .int .u64 0, .int .u64 0, .int .u64 0, .int .u64 0, .int .u64 0, .int .u64 0, .int .u64 0, .int .u64 0] 31 ∧ Below w.heap.size w W := by
        have h0 := Blk.new (w) #[.int .i64 c.bits, .int .u64 c.one, .int .i64 c.ring, .int .u64 c.limit, .int .i64 c.room, .int .u64 c.mss, .int .u64 c.initial, .int .u64 c.least, .int .u64 c.most, .int .i64 c.algo, .int .u64 c.first, .int .u64 c.grain, .int .u64 c.cap, .int .u64 c.burst, .int .u64 c.slowest, .int .i64 c.chal, .int .u64 c.every] 24
        have h1 := Blk.new (World.alloc (w) (.cells #[.int .i64 c.bits, .int .u64 c.one, .int .i64 c.ring, .int .u64 c.limit, .int .i64 c.room, .int .u64 c.mss, .int .u64 c.initial, .int .u64 c.least, .int .u64 c.most, .int .i64 c.algo, .int .u64 c.first, .int .u64 c.grain, .int .u64 c.cap, .int .u64 c.burst, .int .u64 c.slowest, .int .i64 c.chal, .int .u64 c.every] 24)) #[.int .u64 s0, .int .u64 s1, .int .u64 s2, .int .u64 s3, .int .u64 s4, .int .u64 s5, .int .u64 s6, .int .u64 e, .int .u64 k] 31
        have h2 := Blk.new (World.alloc (World.alloc (w) (.cells #[.int .i64 c.bits, .int .u64 c.one, .int .i64 c.ring, .int .u64 c.limit, .int .i64 c.room, .int .u64 c.mss, .int .u64 c.initial, .int .u64 c.least, .int .u64 c.most, .int .i64 c.algo, .int .u64 c.first, .int .u64 c.grain, .int .u64 c.cap, .int .u64 c.burst, .int .u64 c.slowest, .int .i64 c.chal, .int .u64 c.every] 24)) (.cells #[.int .u64 s0, .int .u64 s1, .int .u64 s2, .int .u64 s3, .int .u64 s4, .int .u64 s5, .int .u64 s6, .int .u64 e, .int .u64 k] 31)) #[.int .u64 0, .int .u64 0, .int .u64 0, .int .u64 0, .int .u64 0, .int .u64 0, .int .u64 0, .int .u64 0, .int .u64 0] 31
        simp only [World.size_alloc] at h1 h2
        subst hW
        exact ⟨((h0.alloc _).alloc _), (h1.alloc _), h2, ((((Below.refl _ _).alloc (Nat.le_refl _) _).alloc (by simp only [World.size_alloc]; omega) _).alloc (by simp only [World.size_alloc]; omega) _)⟩
      clear hW
      generalize hb_oB : w.heap.size + 1 + 1 = b_oB at *
      generalize hb_sB : w.heap.size + 1 = b_sB at *
      have lt_cB := cB.lt
      have lt_sB := sB.lt
      have lt_oB := oB.lt
      go_upto_region 4 with (first | (refine wpl_load_row (by rfl) 24 (.tmp 5) rfl w.heap.size rfl 24 #[.int .i64 c.bits, .int .u64 c.one, .int .i64 c.ring, .int .u64 c.limit, .int .i64 c.room, .int .u64 c.mss, .int .u64 c.initial, .int .u64 c.least, .int .u64 c.most, .int .i64 c.algo, .int .u64 c.first, .int .u64 c.grain, .int .u64 c.cap, .int .u64 c.burst, .int .u64 c.slowest, .int .i64 c.chal, .int .u64 c.every] (0, 0) _ cB Try.underlying24 rfl (by kernel_rfl) ?_) | (go_at_call 24; refine (CK _).mono ?_; rintro x' y0 ⟨rfl, L0⟩; replace cB := cB.below L0 lt_cB; replace sB := sB.below L0 lt_sB; replace oB := oB.below L0 lt_oB; replace hL := Base.next hL L0; replace lt_cB := cB.lt; replace lt_sB := sB.lt; replace lt_oB := oB.lt; have cB_5 : _ = some (Value.int .u64 c.mss) := cB.cell 5; have cB_9 : _ = some (Value.int .i64 c.algo) := cB.cell 9; have sB_0 : _ = some (Value.int .u64 s0) := sB.cell 0; have sB_1 : _ = some (Value.int .u64 s1) := sB.cell 1; have sB_2 : _ = some (Value.int .u64 s2) := sB.cell 2; have sB_3 : _ = some (Value.int .u64 s3) := sB.cell 3; have sB_4 : _ = some (Value.int .u64 s4) := sB.cell 4; have sB_5 : _ = some (Value.int .u64 s5) := sB.cell 5; have sB_6 : _ = some (Value.int .u64 s6) := sB.cell 6; have sB_7 : _ = some (Value.int .u64 e) := sB.cell 7; have sB_8 : _ = some (Value.int .u64 k) := sB.cell 8))
      go_upto_region 6 with (first
        | (go_at_call 25; refine (CG _).mono ?_; rintro x' y ⟨rfl, L1⟩; replace cB := cB.below L1 lt_cB; replace sB := sB.below L1 lt_sB; replace oB := oB.below L1 lt_oB; replace hL := Base.next hL L1; replace lt_cB := cB.lt; replace lt_sB := sB.lt; replace lt_oB := oB.lt)
        | (refine wpl_store_mid rfl 27 (.tmp 24) (.tmp 23) rfl sB 0 #[.int .u64 q0, .int .u64 q1, .int .u64 q2, .int .u64 q3, .int .u64 q4, .int .u64 q5, .int .u64 q6] rfl rfl (by kernel_rfl) (by simp) (by simp [Value.oneCell']) ?_))
      refine at_any ?_
      intro X hX
      obtain ⟨cB', sB', oB', hL'⟩ : Blk X w.heap.size #[.int .i64 c.bits, .int .u64 c.one, .int .i64 c.ring, .int .u64 c.limit, .int .i64 c.room, .int .u64 c.mss, .int .u64 c.initial, .int .u64 c.least, .int .u64 c.most, .int .i64 c.algo, .int .u64 c.first, .int .u64 c.grain, .int .u64 c.cap, .int .u64 c.burst, .int .u64 c.slowest, .int .i64 c.chal, .int .u64 c.every] 24 ∧ Blk X b_sB #[.int .u64 q0, .int .u64 q1, .int .u64 q2, .int .u64 q3, .int .u64 q4, .int .u64 q5, .int .u64 q6, .int .u64 e, .int .u64 k] 31 ∧ Blk X b_oB #[.int .u64 0, .int .u64 0, .int .u64 0, .int .u64 0, .int .u64 0, .int .u64 0, .int .u64 0, .int .u64 0, .int .u64 0] 31 ∧ Below w.heap.size w X := by
        subst hX
        exact ⟨Blk.otherMid (show w.heap.size ≠ b_sB by omega) cB _ _, sB.mid79, Blk.otherMid (show b_oB ≠ b_sB by omega) oB _ _, below_setCells (show w.heap.size ≤ b_sB by omega) hL _ _⟩
      clear hX cB sB oB hL
      clear lt_cB lt_sB lt_oB
      have cB := cB'
      have sB := sB'
      have oB := oB'
      have hL := hL'
      clear cB' sB' oB' hL'
      have lt_cB := cB.lt
      have cB_7 : _ = some (Value.int .u64 c.least) := cB.cell 7
      have cB_8 : _ = some (Value.int .u64 c.most) := cB.cell 8
      have lt_sB := sB.lt
      have sB_0 : _ = some (Value.int .u64 q0) := sB.cell 0
      have sB_z0 := sB.free 0
      have lt_oB := oB.lt
      go_upto_region 7 with (go_at_call 27; refine (CL _).mono ?_; rintro x' y ⟨rfl, rfl⟩)
      refine at_any ?_
      intro X hX
      obtain ⟨cB', sB', oB', hL'⟩ : Blk X w.heap.size #[.int .i64 c.bits, .int .u64 c.one, .int .i64 c.ring, .int .u64 c.limit, .int .i64 c.room, .int .u64 c.mss, .int .u64 c.initial, .int .u64 c.least, .int .u64 c.most, .int .i64 c.algo, .int .u64 c.first, .int .u64 c.grain, .int .u64 c.cap, .int .u64 c.burst, .int .u64 c.slowest, .int .i64 c.chal, .int .u64 c.every] 24 ∧ Blk X b_sB #[.int .u64 cl, .int .u64 q1, .int .u64 q2, .int .u64 q3, .int .u64 q4, .int .u64 q5, .int .u64 q6, .int .u64 e, .int .u64 k] 31 ∧ Blk X b_oB #[.int .u64 0, .int .u64 0, .int .u64 0, .int .u64 0, .int .u64 0, .int .u64 0, .int .u64 0, .int .u64 0, .int .u64 0] 31 ∧ Below w.heap.size w X := by
        subst hX
        exact ⟨cB.other (show w.heap.size ≠ b_sB by omega) _, sB.set 0 (.int .u64 cl), oB.other (show b_oB ≠ b_sB by omega) _, hL.setCell (show w.heap.size ≤ b_sB by omega) _⟩
      clear hX cB sB oB hL
      clear lt_cB cB_7 cB_8 lt_sB sB_0 sB_z0 lt_oB
      have cB := cB'
      have sB := sB'
      have oB := oB'
      have hL := hL'
      clear cB' sB' oB' hL'
      have lt_cB := cB.lt
      have lt_sB := sB.lt
      have sB_0 : _ = some (Value.int .u64 cl) := sB.cell 0
      have sB_1 : _ = some (Value.int .u64 q1) := sB.cell 1
      have sB_2 : _ = some (Value.int .u64 q2) := sB.cell 2
      have sB_3 : _ = some (Value.int .u64 q3) := sB.cell 3
      have sB_4 : _ = some (Value.int .u64 q4) := sB.cell 4
      have sB_5 : _ = some (Value.int .u64 q5) := sB.cell 5
      have sB_6 : _ = some (Value.int .u64 q6) := sB.cell 6
      have sB_7 : _ = some (Value.int .u64 e) := sB.cell 7
      have sB_8 : _ = some (Value.int .u64 k) := sB.cell 8
      have lt_oB := oB.lt
      go_wp2_with (refine wpl_store_row rfl 31 (.tmp 10) (.tmp 44) rfl oB #[.int .u64 cl, .int .u64 q1, .int .u64 q2, .int .u64 q3, .int .u64 q4, .int .u64 q5, .int .u64 q6, .int .u64 e, .int .u64 k] rfl rfl (by kernel_rfl) rfl (by simp [Value.oneCell']) ?_)
      refine bodyPost_ret (results_cell_row rfl _ _ b_oB 31 #[.int .u64 cl, .int .u64 q1, .int .u64 q2, .int .u64 q3, .int .u64 q4, .int .u64 q5, .int .u64 q6, .int .u64 e, .int .u64 k] (0, 0) _ rfl (oB.setRow _) Try.underlying31 rfl (by kernel_rfl)) rfl ?_
      exact ⟨rfl, below_setRow' hL (by omega)⟩
    · rw [if_neg h1]
      have h1' : (c.algo == 1) = false := by simpa using h1
      clear h1
      have CG := fun V => ref_growc s.w hs.w acked c.mss now smooth ha hc.mss hn hm V
      generalize growC s.w acked c.mss now smooth = v at *
      obtain ⟨⟨s0, s1, s2, s3, s4, s5, s6⟩, ⟨e, k⟩⟩ := s
      obtain ⟨q0, q1, q2, q3, q4, q5, q6⟩ := v
      unfold WinPost wc at CG
      unfold kc
      simp only at CG ⊢
      have CL := fun V => Sat.ref_clamp q0 c.least c.most V
      generalize Sat.clamp q0 c.least c.most = cl at *
      go_enter Try.func10, Try.ntmps10
      go_upto_region 1 with fail
      refine at_any ?_
      intro W hW
      obtain ⟨cB, sB, oB, hL⟩ : Blk W w.heap.size #[.int .i64 c.bits, .int .u64 c.one, .int .i64 c.ring, .int .u64 c.limit, .int .i64 c.room, .int .u64 c.mss, .int .u64 c.initial, .int .u64 c.least, .int .u64 c.most, .int .i64 c.algo, .int .u64 c.first, .int .u64 c.grain, .int .u64 c.cap, .int .u64 c.burst, .int .u64 c.slowest, .int .i64 c.chal, .int .u64 c.every] 24 ∧ Blk W (w.heap.size + 1) #[.int .u64 s0, .int .u64 s1, .int .u64 s2, .int .u64 s3, .int .u64 s4, .int .u64 s5, .int .u64 s6, .int .u64 e, .int .u64 k] 31 ∧ Blk W (w.heap.size + 1 + 1) #[.int .u64 0, .int .u64 0, .int .u64 0, .int .u64 0, .int .u64 0, .int .u64 0, .int .u64 0, .int .u64 0, .int .u64 0] 31 ∧ Below w.heap.size w W := by
        have h0 := Blk.new (w) #[.int .i64 c.bits, .int .u64 c.one, .int .i64 c.ring, .int .u64 c.limit, .int .i64 c.room, .int .u64 c.mss, .int .u64 c.initial, .int .u64 c.least, .int .u64 c.most, .int .i64 c.algo, .int .u64 c.first, .int .u64 c.grain, .int .u64 c.cap, .int .u64 c.burst, .int .u64 c.slowest, .int .i64 c.chal, .int .u64 c.every] 24
        have h1 := Blk.new (World.alloc (w) (.cells #[.int .i64 c.bits, .int .u64 c.one, .int .i64 c.ring, .int .u64 c.limit, .int .i64 c.room, .int .u64 c.mss, .int .u64 c.initial, .int .u64 c.least, .int .u64 c.most, .int .i64 c.algo, .int .u64 c.first, .int .u64 c.grain, .int .u64 c.cap, .int .u64 c.burst, .int .u64 c.slowest, .int .i64 c.chal, .int .u64 c.every] 24)) #[.int .u64 s0, .int .u64 s1, .int .u64 s2, .int .u64 s3, .int .u64 s4, .int .u64 s5, .int .u64 s6, .int .u64 e, .int .u64 k] 31
        have h2 := Blk.new (World.alloc (World.alloc (w) (.cells #[.int .i64 c.bits, .int .u64 c.one, .int .i64 c.ring, .int .u64 c.limit, .int .i64 c.room, .int .u64 c.mss, .int .u64 c.initial, .int .u64 c.least, .int .u64 c.most, .int .i64 c.algo, .int .u64 c.first, .int .u64 c.grain, .int .u64 c.cap, .int .u64 c.burst, .int .u64 c.slowest, .int .i64 c.chal, .int .u64 c.every] 24)) (.cells #[.int .u64 s0, .int .u64 s1, .int .u64 s2, .int .u64 s3, .int .u64 s4, .int .u64 s5, .int .u64 s6, .int .u64 e, .int .u64 k] 31)) #[.int .u64 0, .int .u64 0, .int .u64 0, .int .u64 0, .int .u64 0, .int .u64 0, .int .u64 0, .int .u64 0, .int .u64 0] 31
        simp only [World.size_alloc] at h1 h2
        subst hW
        exact ⟨((h0.alloc _).alloc _), (h1.alloc _), h2, ((((Below.refl _ _).alloc (Nat.le_refl _) _).alloc (by simp only [World.size_alloc]; omega) _).alloc (by simp only [World.size_alloc]; omega) _)⟩
      clear hW
      generalize hb_oB : w.heap.size + 1 + 1 = b_oB at *
      generalize hb_sB : w.heap.size + 1 = b_sB at *
      have lt_cB := cB.lt
      have lt_sB := sB.lt
      have lt_oB := oB.lt
      go_upto_region 5 with (first | (refine wpl_load_row (by rfl) 24 (.tmp 5) rfl w.heap.size rfl 24 #[.int .i64 c.bits, .int .u64 c.one, .int .i64 c.ring, .int .u64 c.limit, .int .i64 c.room, .int .u64 c.mss, .int .u64 c.initial, .int .u64 c.least, .int .u64 c.most, .int .i64 c.algo, .int .u64 c.first, .int .u64 c.grain, .int .u64 c.cap, .int .u64 c.burst, .int .u64 c.slowest, .int .i64 c.chal, .int .u64 c.every] (0, 0) _ cB Try.underlying24 rfl (by kernel_rfl) ?_) | (go_at_call 24; refine (CK _).mono ?_; rintro x' y0 ⟨rfl, L0⟩; replace cB := cB.below L0 lt_cB; replace sB := sB.below L0 lt_sB; replace oB := oB.below L0 lt_oB; replace hL := Base.next hL L0; replace lt_cB := cB.lt; replace lt_sB := sB.lt; replace lt_oB := oB.lt; have cB_5 : _ = some (Value.int .u64 c.mss) := cB.cell 5; have cB_9 : _ = some (Value.int .i64 c.algo) := cB.cell 9; have sB_0 : _ = some (Value.int .u64 s0) := sB.cell 0; have sB_1 : _ = some (Value.int .u64 s1) := sB.cell 1; have sB_2 : _ = some (Value.int .u64 s2) := sB.cell 2; have sB_3 : _ = some (Value.int .u64 s3) := sB.cell 3; have sB_4 : _ = some (Value.int .u64 s4) := sB.cell 4; have sB_5 : _ = some (Value.int .u64 s5) := sB.cell 5; have sB_6 : _ = some (Value.int .u64 s6) := sB.cell 6; have sB_7 : _ = some (Value.int .u64 e) := sB.cell 7; have sB_8 : _ = some (Value.int .u64 k) := sB.cell 8))
      go_upto_region 6 with (first
        | (go_at_call 26; refine (CG _).mono ?_; rintro x' y ⟨rfl, L1⟩; replace cB := cB.below L1 lt_cB; replace sB := sB.below L1 lt_sB; replace oB := oB.below L1 lt_oB; replace hL := Base.next hL L1; replace lt_cB := cB.lt; replace lt_sB := sB.lt; replace lt_oB := oB.lt)
        | (refine wpl_store_mid rfl 27 (.tmp 33) (.tmp 32) rfl sB 0 #[.int .u64 q0, .int .u64 q1, .int .u64 q2, .int .u64 q3, .int .u64 q4, .int .u64 q5, .int .u64 q6] rfl rfl (by kernel_rfl) (by simp) (by simp [Value.oneCell']) ?_))
      refine at_any ?_
      intro X hX
      obtain ⟨cB', sB', oB', hL'⟩ : Blk X w.heap.size #[.int .i64 c.bits, .int .u64 c.one, .int .i64 c.ring, .int .u64 c.limit, .int .i64 c.room, .int .u64 c.mss, .int .u64 c.initial, .int .u64 c.least, .int .u64 c.most, .int .i64 c.algo, .int .u64 c.first, .int .u64 c.grain, .int .u64 c.cap, .int .u64 c.burst, .int .u64 c.slowest, .int .i64 c.chal, .int .u64 c.every] 24 ∧ Blk X b_sB #[.int .u64 q0, .int .u64 q1, .int .u64 q2, .int .u64 q3, .int .u64 q4, .int .u64 q5, .int .u64 q6, .int .u64 e, .int .u64 k] 31 ∧ Blk X b_oB #[.int .u64 0, .int .u64 0, .int .u64 0, .int .u64 0, .int .u64 0, .int .u64 0, .int .u64 0, .int .u64 0, .int .u64 0] 31 ∧ Below w.heap.size w X := by
        subst hX
        exact ⟨Blk.otherMid (show w.heap.size ≠ b_sB by omega) cB _ _, sB.mid79, Blk.otherMid (show b_oB ≠ b_sB by omega) oB _ _, below_setCells (show w.heap.size ≤ b_sB by omega) hL _ _⟩
      clear hX cB sB oB hL
      clear lt_cB lt_sB lt_oB
      have cB := cB'
      have sB := sB'
      have oB := oB'
      have hL := hL'
      clear cB' sB' oB' hL'
      have lt_cB := cB.lt
      have cB_7 : _ = some (Value.int .u64 c.least) := cB.cell 7
      have cB_8 : _ = some (Value.int .u64 c.most) := cB.cell 8
      have lt_sB := sB.lt
      have sB_0 : _ = some (Value.int .u64 q0) := sB.cell 0
      have sB_z0 := sB.free 0
      have lt_oB := oB.lt
      go_upto_region 7 with (go_at_call 27; refine (CL _).mono ?_; rintro x' y ⟨rfl, rfl⟩)
      refine at_any ?_
      intro X hX
      obtain ⟨cB', sB', oB', hL'⟩ : Blk X w.heap.size #[.int .i64 c.bits, .int .u64 c.one, .int .i64 c.ring, .int .u64 c.limit, .int .i64 c.room, .int .u64 c.mss, .int .u64 c.initial, .int .u64 c.least, .int .u64 c.most, .int .i64 c.algo, .int .u64 c.first, .int .u64 c.grain, .int .u64 c.cap, .int .u64 c.burst, .int .u64 c.slowest, .int .i64 c.chal, .int .u64 c.every] 24 ∧ Blk X b_sB #[.int .u64 cl, .int .u64 q1, .int .u64 q2, .int .u64 q3, .int .u64 q4, .int .u64 q5, .int .u64 q6, .int .u64 e, .int .u64 k] 31 ∧ Blk X b_oB #[.int .u64 0, .int .u64 0, .int .u64 0, .int .u64 0, .int .u64 0, .int .u64 0, .int .u64 0, .int .u64 0, .int .u64 0] 31 ∧ Below w.heap.size w X := by
        subst hX
        exact ⟨cB.other (show w.heap.size ≠ b_sB by omega) _, sB.set 0 (.int .u64 cl), oB.other (show b_oB ≠ b_sB by omega) _, hL.setCell (show w.heap.size ≤ b_sB by omega) _⟩
      clear hX cB sB oB hL
      clear lt_cB cB_7 cB_8 lt_sB sB_0 sB_z0 lt_oB
      have cB := cB'
      have sB := sB'
      have oB := oB'
      have hL := hL'
      clear cB' sB' oB' hL'
      have lt_cB := cB.lt
      have lt_sB := sB.lt
      have sB_0 : _ = some (Value.int .u64 cl) := sB.cell 0
      have sB_1 : _ = some (Value.int .u64 q1) := sB.cell 1
      have sB_2 : _ = some (Value.int .u64 q2) := sB.cell 2
      have sB_3 : _ = some (Value.int .u64 q3) := sB.cell 3
      have sB_4 : _ = some (Value.int .u64 q4) := sB.cell 4
      have sB_5 : _ = some (Value.int .u64 q5) := sB.cell 5
      have sB_6 : _ = some (Value.int .u64 q6) := sB.cell 6
      have sB_7 : _ = some (Value.int .u64 e) := sB.cell 7
      have sB_8 : _ = some (Value.int .u64 k) := sB.cell 8
      have lt_oB := oB.lt
      go_wp2_with (refine wpl_store_row rfl 31 (.tmp 10) (.tmp 44) rfl oB #[.int .u64 cl, .int .u64 q1, .int .u64 q2, .int .u64 q3, .int .u64 q4, .int .u64 q5, .int .u64 q6, .int .u64 e, .int .u64 k] rfl rfl (by kernel_rfl) rfl (by simp [Value.oneCell']) ?_)
      refine bodyPost_ret (results_cell_row rfl _ _ b_oB 31 #[.int .u64 cl, .int .u64 q1, .int .u64 q2, .int .u64 q3, .int .u64 q4, .int .u64 q5, .int .u64 q6, .int .u64 e, .int .u64 k] (0, 0) _ rfl (oB.setRow _) Try.underlying31 rfl (by kernel_rfl)) rfl ?_
      exact ⟨rfl, below_setRow' hL (by omega)⟩
  · rw [if_neg h0]
    have h0' : (pos (flags c) != 0) = true := by simpa using h0
    generalize pos (flags c) = vd at *
    obtain ⟨⟨s0, s1, s2, s3, s4, s5, s6⟩, ⟨e, k⟩⟩ := s
    unfold kc
    simp only
    go_enter Try.func10, Try.ntmps10
    go_upto_region 1 with fail
    refine at_any ?_
    intro W hW
    obtain ⟨cB, sB, oB, hL⟩ : Blk W w.heap.size #[.int .i64 c.bits, .int .u64 c.one, .int .i64 c.ring, .int .u64 c.limit, .int .i64 c.room, .int .u64 c.mss, .int .u64 c.initial, .int .u64 c.least, .int .u64 c.most, .int .i64 c.algo, .int .u64 c.first, .int .u64 c.grain, .int .u64 c.cap, .int .u64 c.burst, .int .u64 c.slowest, .int .i64 c.chal, .int .u64 c.every] 24 ∧ Blk W (w.heap.size + 1) #[.int .u64 s0, .int .u64 s1, .int .u64 s2, .int .u64 s3, .int .u64 s4, .int .u64 s5, .int .u64 s6, .int .u64 e, .int .u64 k] 31 ∧ Blk W (w.heap.size + 1 + 1) #[.int .u64 0, .int .u64 0, .int .u64 0, .int .u64 0, .int .u64 0, .int .u64 0, .int .u64 0, .int .u64 0, .int .u64 0] 31 ∧ Below w.heap.size w W := by
      have h0 := Blk.new (w) #[.int .i64 c.bits, .int .u64 c.one, .int .i64 c.ring, .int .u64 c.limit, .int .i64 c.room, .int .u64 c.mss, .int .u64 c.initial, .int .u64 c.least, .int .u64 c.most, .int .i64 c.algo, .int .u64 c.first, .int .u64 c.grain, .int .u64 c.cap, .int .u64 c.burst, .int .u64 c.slowest, .int .i64 c.chal, .int .u64 c.every] 24
      have h1 := Blk.new (World.alloc (w) (.cells #[.int .i64 c.bits, .int .u64 c.one, .int .i64 c.ring, .int .u64 c.limit, .int .i64 c.room, .int .u64 c.mss, .int .u64 c.initial, .int .u64 c.least, .int .u64 c.most, .int .i64 c.algo, .int .u64 c.first, .int .u64 c.grain, .int .u64 c.cap, .int .u64 c.burst, .int .u64 c.slowest, .int .i64 c.chal, .int .u64 c.every] 24)) #[.int .u64 s0, .int .u64 s1, .int .u64 s2, .int .u64 s3, .int .u64 s4, .int .u64 s5, .int .u64 s6, .int .u64 e, .int .u64 k] 31
      have h2 := Blk.new (World.alloc (World.alloc (w) (.cells #[.int .i64 c.bits, .int .u64 c.one, .int .i64 c.ring, .int .u64 c.limit, .int .i64 c.room, .int .u64 c.mss, .int .u64 c.initial, .int .u64 c.least, .int .u64 c.most, .int .i64 c.algo, .int .u64 c.first, .int .u64 c.grain, .int .u64 c.cap, .int .u64 c.burst, .int .u64 c.slowest, .int .i64 c.chal, .int .u64 c.every] 24)) (.cells #[.int .u64 s0, .int .u64 s1, .int .u64 s2, .int .u64 s3, .int .u64 s4, .int .u64 s5, .int .u64 s6, .int .u64 e, .int .u64 k] 31)) #[.int .u64 0, .int .u64 0, .int .u64 0, .int .u64 0, .int .u64 0, .int .u64 0, .int .u64 0, .int .u64 0, .int .u64 0] 31
      simp only [World.size_alloc] at h1 h2
      subst hW
      exact ⟨((h0.alloc _).alloc _), (h1.alloc _), h2, ((((Below.refl _ _).alloc (Nat.le_refl _) _).alloc (by simp only [World.size_alloc]; omega) _).alloc (by simp only [World.size_alloc]; omega) _)⟩
    clear hW
    generalize hb_oB : w.heap.size + 1 + 1 = b_oB at *
    generalize hb_sB : w.heap.size + 1 = b_sB at *
    have lt_cB := cB.lt
    have lt_sB := sB.lt
    have lt_oB := oB.lt
    go_upto_region 2 with (first | (refine wpl_load_row (by rfl) 24 (.tmp 5) rfl w.heap.size rfl 24 #[.int .i64 c.bits, .int .u64 c.one, .int .i64 c.ring, .int .u64 c.limit, .int .i64 c.room, .int .u64 c.mss, .int .u64 c.initial, .int .u64 c.least, .int .u64 c.most, .int .i64 c.algo, .int .u64 c.first, .int .u64 c.grain, .int .u64 c.cap, .int .u64 c.burst, .int .u64 c.slowest, .int .i64 c.chal, .int .u64 c.every] (0, 0) _ cB Try.underlying24 rfl (by kernel_rfl) ?_) | (go_at_call 24; refine (CK _).mono ?_; rintro x' y0 ⟨rfl, L0⟩; replace cB := cB.below L0 lt_cB; replace sB := sB.below L0 lt_sB; replace oB := oB.below L0 lt_oB; replace hL := Base.next hL L0; replace lt_cB := cB.lt; replace lt_sB := sB.lt; replace lt_oB := oB.lt; have sB_0 : _ = some (Value.int .u64 s0) := sB.cell 0; have sB_1 : _ = some (Value.int .u64 s1) := sB.cell 1; have sB_2 : _ = some (Value.int .u64 s2) := sB.cell 2; have sB_3 : _ = some (Value.int .u64 s3) := sB.cell 3; have sB_4 : _ = some (Value.int .u64 s4) := sB.cell 4; have sB_5 : _ = some (Value.int .u64 s5) := sB.cell 5; have sB_6 : _ = some (Value.int .u64 s6) := sB.cell 6; have sB_7 : _ = some (Value.int .u64 e) := sB.cell 7; have sB_8 : _ = some (Value.int .u64 k) := sB.cell 8))
    go_wp2_with (refine wpl_store_row rfl 31 (.tmp 10) (.tmp 14) rfl oB #[.int .u64 s0, .int .u64 s1, .int .u64 s2, .int .u64 s3, .int .u64 s4, .int .u64 s5, .int .u64 s6, .int .u64 e, .int .u64 k] rfl rfl (by kernel_rfl) rfl (by simp [Value.oneCell']) ?_)
    refine bodyPost_ret (results_cell_row rfl _ _ b_oB 31 #[.int .u64 s0, .int .u64 s1, .int .u64 s2, .int .u64 s3, .int .u64 s4, .int .u64 s5, .int .u64 s6, .int .u64 e, .int .u64 k] (0, 0) _ rfl (oB.setRow _) Try.underlying31 rfl (by kernel_rfl)) rfl ?_
    exact ⟨rfl, below_setRow' hL (by omega)⟩
set_option maxHeartbeats 4000000 in
theorem ref_fall (c : C) (hc : CFit c) (s : Kc) (hs : KFit s) (w : World) :
    Calls Try.prog 18 #[.agg #[.int .i64 c.bits, .int .u64 c.one, .int .i64 c.ring, .int .u64 c.limit, .int .i64 c.room, .int .u64 c.mss, .int .u64 c.initial, .int .u64 c.least, .int .u64 c.most, .int .i64 c.algo, .int .u64 c.first, .int .u64 c.grain, .int .u64 c.cap, .int .u64 c.burst, .int .u64 c.slowest, .int .i64 c.chal, .int .u64 c.every], .agg (kc s)] w (CcPost w (fallK c s)) := by
  have CK := fun V => ref_check c hc.mss.1 hc.mss.2 V
  unfold CcPost fallK
  by_cases h0 : pos (flags c) = 0
  · rw [h0] at CK
    rw [if_pos h0]
    have CV := fun V => ref_cutk c hc s.w hs.w 10 14 ⟨by decide, by decide⟩ ⟨by decide, by decide⟩ V
    generalize cutK c s.w 10 14 = v at *
    obtain ⟨⟨s0, s1, s2, s3, s4, s5, s6⟩, ⟨e, k⟩⟩ := s
    obtain ⟨q0, q1, q2, q3, q4, q5, q6⟩ := v
    unfold WinPost wc at CV
    unfold kc
    simp only at CV ⊢
    go_enter Try.func18, Try.ntmps18
    go_upto_region 1 with fail
    refine at_any ?_
    intro W hW
    obtain ⟨cB, sB, oB, hL⟩ : Blk W w.heap.size #[.int .i64 c.bits, .int .u64 c.one, .int .i64 c.ring, .int .u64 c.limit, .int .i64 c.room, .int .u64 c.mss, .int .u64 c.initial, .int .u64 c.least, .int .u64 c.most, .int .i64 c.algo, .int .u64 c.first, .int .u64 c.grain, .int .u64 c.cap, .int .u64 c.burst, .int .u64 c.slowest, .int .i64 c.chal, .int .u64 c.every] 24 ∧ Blk W (w.heap.size + 1) #[.int .u64 s0, .int .u64 s1, .int .u64 s2, .int .u64 s3, .int .u64 s4, .int .u64 s5, .int .u64 s6, .int .u64 e, .int .u64 k] 31 ∧ Blk W (w.heap.size + 1 + 1) #[.int .u64 0, .int .u64 0, .int .u64 0, .int .u64 0, .int .u64 0, .int .u64 0, .int .u64 0, .int .u64 0, .int .u64 0] 31 ∧ Below w.heap.size w W := by
      have h0 := Blk.new (w) #[.int .i64 c.bits, .int .u64 c.one, .int .i64 c.ring, .int .u64 c.limit, .int .i64 c.room, .int .u64 c.mss, .int .u64 c.initial, .int .u64 c.least, .int .u64 c.most, .int .i64 c.algo, .int .u64 c.first, .int .u64 c.grain, .int .u64 c.cap, .int .u64 c.burst, .int .u64 c.slowest, .int .i64 c.chal, .int .u64 c.every] 24
      have h1 := Blk.new (World.alloc (w) (.cells #[.int .i64 c.bits, .int .u64 c.one, .int .i64 c.ring, .int .u64 c.limit, .int .i64 c.room, .int .u64 c.mss, .int .u64 c.initial, .int .u64 c.least, .int .u64 c.most, .int .i64 c.algo, .int .u64 c.first, .int .u64 c.grain, .int .u64 c.cap, .int .u64 c.burst, .int .u64 c.slowest, .int .i64 c.chal, .int .u64 c.every] 24)) #[.int .u64 s0, .int .u64 s1, .int .u64 s2, .int .u64 s3, .int .u64 s4, .int .u64 s5, .int .u64 s6, .int .u64 e, .int .u64 k] 31
      have h2 := Blk.new (World.alloc (World.alloc (w) (.cells #[.int .i64 c.bits, .int .u64 c.one, .int .i64 c.ring, .int .u64 c.limit, .int .i64 c.room, .int .u64 c.mss, .int .u64 c.initial, .int .u64 c.least, .int .u64 c.most, .int .i64 c.algo, .int .u64 c.first, .int .u64 c.grain, .int .u64 c.cap, .int .u64 c.burst, .int .u64 c.slowest, .int .i64 c.chal, .int .u64 c.every] 24)) (.cells #[.int .u64 s0, .int .u64 s1, .int .u64 s2, .int .u64 s3, .int .u64 s4, .int .u64 s5, .int .u64 s6, .int .u64 e, .int .u64 k] 31)) #[.int .u64 0, .int .u64 0, .int .u64 0, .int .u64 0, .int .u64 0, .int .u64 0, .int .u64 0, .int .u64 0, .int .u64 0] 31
      simp only [World.size_alloc] at h1 h2
      subst hW
      exact ⟨((h0.alloc _).alloc _), (h1.alloc _), h2, ((((Below.refl _ _).alloc (Nat.le_refl _) _).alloc (by simp only [World.size_alloc]; omega) _).alloc (by simp only [World.size_alloc]; omega) _)⟩
    clear hW
    generalize hb_oB : w.heap.size + 1 + 1 = b_oB at *
    generalize hb_sB : w.heap.size + 1 = b_sB at *
    have lt_cB := cB.lt
    have lt_sB := sB.lt
    have lt_oB := oB.lt
    go_upto_region 3 with (first | (refine wpl_load_row (by rfl) 24 (.tmp 2) rfl w.heap.size rfl 24 #[.int .i64 c.bits, .int .u64 c.one, .int .i64 c.ring, .int .u64 c.limit, .int .i64 c.room, .int .u64 c.mss, .int .u64 c.initial, .int .u64 c.least, .int .u64 c.most, .int .i64 c.algo, .int .u64 c.first, .int .u64 c.grain, .int .u64 c.cap, .int .u64 c.burst, .int .u64 c.slowest, .int .i64 c.chal, .int .u64 c.every] (0, 0) _ cB Try.underlying24 rfl (by kernel_rfl) ?_) | (go_at_call 24; refine (CK _).mono ?_; rintro x' y0 ⟨rfl, L0⟩; replace cB := cB.below L0 lt_cB; replace sB := sB.below L0 lt_sB; replace oB := oB.below L0 lt_oB; replace hL := Base.next hL L0; replace lt_cB := cB.lt; replace lt_sB := sB.lt; replace lt_oB := oB.lt; have sB_0 : _ = some (Value.int .u64 s0) := sB.cell 0; have sB_1 : _ = some (Value.int .u64 s1) := sB.cell 1; have sB_2 : _ = some (Value.int .u64 s2) := sB.cell 2; have sB_3 : _ = some (Value.int .u64 s3) := sB.cell 3; have sB_4 : _ = some (Value.int .u64 s4) := sB.cell 4; have sB_5 : _ = some (Value.int .u64 s5) := sB.cell 5; have sB_6 : _ = some (Value.int .u64 s6) := sB.cell 6; have sB_7 : _ = some (Value.int .u64 e) := sB.cell 7; have sB_8 : _ = some (Value.int .u64 k) := sB.cell 8))
    go_upto_region 4 with (first
      | (refine wpl_load_row (by rfl) 24 (.tmp 2) rfl w.heap.size rfl 24 #[.int .i64 c.bits, .int .u64 c.one, .int .i64 c.ring, .int .u64 c.limit, .int .i64 c.room, .int .u64 c.mss, .int .u64 c.initial, .int .u64 c.least, .int .u64 c.most, .int .i64 c.algo, .int .u64 c.first, .int .u64 c.grain, .int .u64 c.cap, .int .u64 c.burst, .int .u64 c.slowest, .int .i64 c.chal, .int .u64 c.every] (0, 0) _ cB Try.underlying24 rfl (by kernel_rfl) ?_)
      | (go_at_call 31; refine (CV _).mono ?_; rintro x' y ⟨rfl, L1⟩; replace cB := cB.below L1 lt_cB; replace sB := sB.below L1 lt_sB; replace oB := oB.below L1 lt_oB; replace hL := Base.next hL L1; replace lt_cB := cB.lt; replace lt_sB := sB.lt; replace lt_oB := oB.lt)
      | (refine wpl_store_mid rfl 27 (.tmp 13) (.tmp 12) rfl sB 0 #[.int .u64 q0, .int .u64 q1, .int .u64 q2, .int .u64 q3, .int .u64 q4, .int .u64 q5, .int .u64 q6] rfl rfl (by kernel_rfl) (by simp) (by simp [Value.oneCell']) ?_))
    refine at_any ?_
    intro X hX
    obtain ⟨cB', sB', oB', hL'⟩ : Blk X w.heap.size #[.int .i64 c.bits, .int .u64 c.one, .int .i64 c.ring, .int .u64 c.limit, .int .i64 c.room, .int .u64 c.mss, .int .u64 c.initial, .int .u64 c.least, .int .u64 c.most, .int .i64 c.algo, .int .u64 c.first, .int .u64 c.grain, .int .u64 c.cap, .int .u64 c.burst, .int .u64 c.slowest, .int .i64 c.chal, .int .u64 c.every] 24 ∧ Blk X b_sB #[.int .u64 q0, .int .u64 q1, .int .u64 q2, .int .u64 q3, .int .u64 q4, .int .u64 q5, .int .u64 q6, .int .u64 e, .int .u64 k] 31 ∧ Blk X b_oB #[.int .u64 0, .int .u64 0, .int .u64 0, .int .u64 0, .int .u64 0, .int .u64 0, .int .u64 0, .int .u64 0, .int .u64 0] 31 ∧ Below w.heap.size w X := by
      subst hX
      exact ⟨Blk.otherMid (show w.heap.size ≠ b_sB by omega) cB _ _, sB.mid79, Blk.otherMid (show b_oB ≠ b_sB by omega) oB _ _, below_setCells (show w.heap.size ≤ b_sB by omega) hL _ _⟩
    clear hX cB sB oB hL
    clear lt_cB lt_sB lt_oB
    have cB := cB'
    have sB := sB'
    have oB := oB'
    have hL := hL'
    clear cB' sB' oB' hL'
    have lt_cB := cB.lt
    have cB_7 : _ = some (Value.int .u64 c.least) := cB.cell 7
    have lt_sB := sB.lt
    have sB_0 : _ = some (Value.int .u64 q0) := sB.cell 0
    have sB_z0 := sB.free 0
    have lt_oB := oB.lt
    go_upto_region 5 with fail
    refine at_any ?_
    intro X hX
    obtain ⟨cB', sB', oB', hL'⟩ : Blk X w.heap.size #[.int .i64 c.bits, .int .u64 c.one, .int .i64 c.ring, .int .u64 c.limit, .int .i64 c.room, .int .u64 c.mss, .int .u64 c.initial, .int .u64 c.least, .int .u64 c.most, .int .i64 c.algo, .int .u64 c.first, .int .u64 c.grain, .int .u64 c.cap, .int .u64 c.burst, .int .u64 c.slowest, .int .i64 c.chal, .int .u64 c.every] 24 ∧ Blk X b_sB #[.int .u64 c.least, .int .u64 q1, .int .u64 q2, .int .u64 q3, .int .u64 q4, .int .u64 q5, .int .u64 q6, .int .u64 e, .int .u64 k] 31 ∧ Blk X b_oB #[.int .u64 0, .int .u64 0, .int .u64 0, .int .u64 0, .int .u64 0, .int .u64 0, .int .u64 0, .int .u64 0, .int .u64 0] 31 ∧ Below w.heap.size w X := by
      subst hX
      exact ⟨cB.other (show w.heap.size ≠ b_sB by omega) _, sB.set 0 (.int .u64 c.least), oB.other (show b_oB ≠ b_sB by omega) _, hL.setCell (show w.heap.size ≤ b_sB by omega) _⟩
    clear hX cB sB oB hL
    clear lt_cB cB_7 lt_sB sB_0 sB_z0 lt_oB
    have cB := cB'
    have sB := sB'
    have oB := oB'
    have hL := hL'
    clear cB' sB' oB' hL'
    have lt_cB := cB.lt
    have lt_sB := sB.lt
    have sB_0 : _ = some (Value.int .u64 c.least) := sB.cell 0
    have sB_1 : _ = some (Value.int .u64 q1) := sB.cell 1
    have sB_2 : _ = some (Value.int .u64 q2) := sB.cell 2
    have sB_3 : _ = some (Value.int .u64 q3) := sB.cell 3
    have sB_4 : _ = some (Value.int .u64 q4) := sB.cell 4
    have sB_5 : _ = some (Value.int .u64 q5) := sB.cell 5
    have sB_6 : _ = some (Value.int .u64 q6) := sB.cell 6
    have sB_7 : _ = some (Value.int .u64 e) := sB.cell 7
    have sB_8 : _ = some (Value.int .u64 k) := sB.cell 8
    have lt_oB := oB.lt
    go_wp2_with (refine wpl_store_row rfl 31 (.tmp 4) (.tmp 18) rfl oB #[.int .u64 c.least, .int .u64 q1, .int .u64 q2, .int .u64 q3, .int .u64 q4, .int .u64 q5, .int .u64 q6, .int .u64 e, .int .u64 k] rfl rfl (by kernel_rfl) rfl (by simp [Value.oneCell']) ?_)
    refine bodyPost_ret (results_cell_row rfl _ _ b_oB 31 #[.int .u64 c.least, .int .u64 q1, .int .u64 q2, .int .u64 q3, .int .u64 q4, .int .u64 q5, .int .u64 q6, .int .u64 e, .int .u64 k] (0, 0) _ rfl (oB.setRow _) Try.underlying31 rfl (by kernel_rfl)) rfl ?_
    exact ⟨rfl, below_setRow' hL (by omega)⟩
  · rw [if_neg h0]
    have h0' : (pos (flags c) != 0) = true := by simpa using h0
    generalize pos (flags c) = vd at *
    obtain ⟨⟨s0, s1, s2, s3, s4, s5, s6⟩, ⟨e, k⟩⟩ := s
    unfold kc
    simp only
    go_enter Try.func18, Try.ntmps18
    go_upto_region 1 with fail
    refine at_any ?_
    intro W hW
    obtain ⟨cB, sB, oB, hL⟩ : Blk W w.heap.size #[.int .i64 c.bits, .int .u64 c.one, .int .i64 c.ring, .int .u64 c.limit, .int .i64 c.room, .int .u64 c.mss, .int .u64 c.initial, .int .u64 c.least, .int .u64 c.most, .int .i64 c.algo, .int .u64 c.first, .int .u64 c.grain, .int .u64 c.cap, .int .u64 c.burst, .int .u64 c.slowest, .int .i64 c.chal, .int .u64 c.every] 24 ∧ Blk W (w.heap.size + 1) #[.int .u64 s0, .int .u64 s1, .int .u64 s2, .int .u64 s3, .int .u64 s4, .int .u64 s5, .int .u64 s6, .int .u64 e, .int .u64 k] 31 ∧ Blk W (w.heap.size + 1 + 1) #[.int .u64 0, .int .u64 0, .int .u64 0, .int .u64 0, .int .u64 0, .int .u64 0, .int .u64 0, .int .u64 0, .int .u64 0] 31 ∧ Below w.heap.size w W := by
      have h0 := Blk.new (w) #[.int .i64 c.bits, .int .u64 c.one, .int .i64 c.ring, .int .u64 c.limit, .int .i64 c.room, .int .u64 c.mss, .int .u64 c.initial, .int .u64 c.least, .int .u64 c.most, .int .i64 c.algo, .int .u64 c.first, .int .u64 c.grain, .int .u64 c.cap, .int .u64 c.burst, .int .u64 c.slowest, .int .i64 c.chal, .int .u64 c.every] 24
      have h1 := Blk.new (World.alloc (w) (.cells #[.int .i64 c.bits, .int .u64 c.one, .int .i64 c.ring, .int .u64 c.limit, .int .i64 c.room, .int .u64 c.mss, .int .u64 c.initial, .int .u64 c.least, .int .u64 c.most, .int .i64 c.algo, .int .u64 c.first, .int .u64 c.grain, .int .u64 c.cap, .int .u64 c.burst, .int .u64 c.slowest, .int .i64 c.chal, .int .u64 c.every] 24)) #[.int .u64 s0, .int .u64 s1, .int .u64 s2, .int .u64 s3, .int .u64 s4, .int .u64 s5, .int .u64 s6, .int .u64 e, .int .u64 k] 31
      have h2 := Blk.new (World.alloc (World.alloc (w) (.cells #[.int .i64 c.bits, .int .u64 c.one, .int .i64 c.ring, .int .u64 c.limit, .int .i64 c.room, .int .u64 c.mss, .int .u64 c.initial, .int .u64 c.least, .int .u64 c.most, .int .i64 c.algo, .int .u64 c.first, .int .u64 c.grain, .int .u64 c.cap, .int .u64 c.burst, .int .u64 c.slowest, .int .i64 c.chal, .int .u64 c.every] 24)) (.cells #[.int .u64 s0, .int .u64 s1, .int .u64 s2, .int .u64 s3, .int .u64 s4, .int .u64 s5, .int .u64 s6, .int .u64 e, .int .u64 k] 31)) #[.int .u64 0, .int .u64 0, .int .u64 0, .int .u64 0, .int .u64 0, .int .u64 0, .int .u64 0, .int .u64 0, .int .u64 0] 31
      simp only [World.size_alloc] at h1 h2
      subst hW
      exact ⟨((h0.alloc _).alloc _), (h1.alloc _), h2, ((((Below.refl _ _).alloc (Nat.le_refl _) _).alloc (by simp only [World.size_alloc]; omega) _).alloc (by simp only [World.size_alloc]; omega) _)⟩
    clear hW
    generalize hb_oB : w.heap.size + 1 + 1 = b_oB at *
    generalize hb_sB : w.heap.size + 1 = b_sB at *
    have lt_cB := cB.lt
    have lt_sB := sB.lt
    have lt_oB := oB.lt
    go_upto_region 2 with (first | (refine wpl_load_row (by rfl) 24 (.tmp 2) rfl w.heap.size rfl 24 #[.int .i64 c.bits, .int .u64 c.one, .int .i64 c.ring, .int .u64 c.limit, .int .i64 c.room, .int .u64 c.mss, .int .u64 c.initial, .int .u64 c.least, .int .u64 c.most, .int .i64 c.algo, .int .u64 c.first, .int .u64 c.grain, .int .u64 c.cap, .int .u64 c.burst, .int .u64 c.slowest, .int .i64 c.chal, .int .u64 c.every] (0, 0) _ cB Try.underlying24 rfl (by kernel_rfl) ?_) | (go_at_call 24; refine (CK _).mono ?_; rintro x' y0 ⟨rfl, L0⟩; replace cB := cB.below L0 lt_cB; replace sB := sB.below L0 lt_sB; replace oB := oB.below L0 lt_oB; replace hL := Base.next hL L0; replace lt_cB := cB.lt; replace lt_sB := sB.lt; replace lt_oB := oB.lt; have sB_0 : _ = some (Value.int .u64 s0) := sB.cell 0; have sB_1 : _ = some (Value.int .u64 s1) := sB.cell 1; have sB_2 : _ = some (Value.int .u64 s2) := sB.cell 2; have sB_3 : _ = some (Value.int .u64 s3) := sB.cell 3; have sB_4 : _ = some (Value.int .u64 s4) := sB.cell 4; have sB_5 : _ = some (Value.int .u64 s5) := sB.cell 5; have sB_6 : _ = some (Value.int .u64 s6) := sB.cell 6; have sB_7 : _ = some (Value.int .u64 e) := sB.cell 7; have sB_8 : _ = some (Value.int .u64 k) := sB.cell 8))
    go_wp2_with (refine wpl_store_row rfl 31 (.tmp 4) (.tmp 8) rfl oB #[.int .u64 s0, .int .u64 s1, .int .u64 s2, .int .u64 s3, .int .u64 s4, .int .u64 s5, .int .u64 s6, .int .u64 e, .int .u64 k] rfl rfl (by kernel_rfl) rfl (by simp [Value.oneCell']) ?_)
    refine bodyPost_ret (results_cell_row rfl _ _ b_oB 31 #[.int .u64 s0, .int .u64 s1, .int .u64 s2, .int .u64 s3, .int .u64 s4, .int .u64 s5, .int .u64 s6, .int .u64 e, .int .u64 k] (0, 0) _ rfl (oB.setRow _) Try.underlying31 rfl (by kernel_rfl)) rfl ?_
    exact ⟨rfl, below_setRow' hL (by omega)⟩
set_option maxHeartbeats 4000000 in
theorem ref_loss (c : C) (hc : CFit c) (s : Kc) (hs : KFit s) (pn next : Int) (hp : U pn) (hn : U next) (w : World) :
    Calls Try.prog 14 #[.agg #[.int .i64 c.bits, .int .u64 c.one, .int .i64 c.ring, .int .u64 c.limit, .int .i64 c.room, .int .u64 c.mss, .int .u64 c.initial, .int .u64 c.least, .int .u64 c.most, .int .i64 c.algo, .int .u64 c.first, .int .u64 c.grain, .int .u64 c.cap, .int .u64 c.burst, .int .u64 c.slowest, .int .i64 c.chal, .int .u64 c.every], .agg (kc s), .int .u64 pn, .int .u64 next] w fun e w' => e = .returned (.tuple #[.agg (kc (lossK c s pn next 10 14)), .bool (lossB c s pn)]) ∧ Below w.heap.size w w' := by
  have CK := fun V => ref_check c hc.mss.1 hc.mss.2 V
  have CB := fun V => Round.ref_begin s.d hs.d pn next hp.1 hp.2 hn.1 hn.2 V
  have CV := fun V => ref_cutk c hc s.w hs.w 10 14 ⟨by decide, by decide⟩ ⟨by decide, by decide⟩ V
  unfold freshP at CB
  cases hB : lossB c s pn with
  | false =>
    rw [loss_no hB]
    clear CV
    unfold lossB at hB
    obtain ⟨⟨s0, s1, s2, s3, s4, s5, s6⟩, ⟨e, k⟩⟩ := s
    simp only at CB hB
    unfold kc
    simp only
    generalize beginP ⟨e, k⟩ pn next = d2 at *
    obtain ⟨e2, k2⟩ := d2
    simp only at CB
    by_cases h0 : pos (flags c) = 0
    · rw [h0] at CK
      have h1 : decide (e ≤ pn) = false := by rw [h0] at hB; simpa using hB
      rw [h1] at CB
      go_enter Try.func14, Try.ntmps14
      go_upto_region 1 with fail
      refine at_any ?_
      intro W hW
      obtain ⟨cB, sB, oB, hL⟩ : Blk W w.heap.size #[.int .i64 c.bits, .int .u64 c.one, .int .i64 c.ring, .int .u64 c.limit, .int .i64 c.room, .int .u64 c.mss, .int .u64 c.initial, .int .u64 c.least, .int .u64 c.most, .int .i64 c.algo, .int .u64 c.first, .int .u64 c.grain, .int .u64 c.cap, .int .u64 c.burst, .int .u64 c.slowest, .int .i64 c.chal, .int .u64 c.every] 24 ∧ Blk W (w.heap.size + 1) #[.int .u64 s0, .int .u64 s1, .int .u64 s2, .int .u64 s3, .int .u64 s4, .int .u64 s5, .int .u64 s6, .int .u64 e, .int .u64 k] 31 ∧ Blk W (w.heap.size + 1 + 1) #[.int .u64 0, .int .u64 0, .int .u64 0, .int .u64 0, .int .u64 0, .int .u64 0, .int .u64 0, .int .u64 0, .int .u64 0] 31 ∧ Below w.heap.size w W := by
        have h0 := Blk.new (w) #[.int .i64 c.bits, .int .u64 c.one, .int .i64 c.ring, .int .u64 c.limit, .int .i64 c.room, .int .u64 c.mss, .int .u64 c.initial, .int .u64 c.least, .int .u64 c.most, .int .i64 c.algo, .int .u64 c.first, .int .u64 c.grain, .int .u64 c.cap, .int .u64 c.burst, .int .u64 c.slowest, .int .i64 c.chal, .int .u64 c.every] 24
        have h1 := Blk.new (World.alloc (w) (.cells #[.int .i64 c.bits, .int .u64 c.one, .int .i64 c.ring, .int .u64 c.limit, .int .i64 c.room, .int .u64 c.mss, .int .u64 c.initial, .int .u64 c.least, .int .u64 c.most, .int .i64 c.algo, .int .u64 c.first, .int .u64 c.grain, .int .u64 c.cap, .int .u64 c.burst, .int .u64 c.slowest, .int .i64 c.chal, .int .u64 c.every] 24)) #[.int .u64 s0, .int .u64 s1, .int .u64 s2, .int .u64 s3, .int .u64 s4, .int .u64 s5, .int .u64 s6, .int .u64 e, .int .u64 k] 31
        have h2 := Blk.new (World.alloc (World.alloc (w) (.cells #[.int .i64 c.bits, .int .u64 c.one, .int .i64 c.ring, .int .u64 c.limit, .int .i64 c.room, .int .u64 c.mss, .int .u64 c.initial, .int .u64 c.least, .int .u64 c.most, .int .i64 c.algo, .int .u64 c.first, .int .u64 c.grain, .int .u64 c.cap, .int .u64 c.burst, .int .u64 c.slowest, .int .i64 c.chal, .int .u64 c.every] 24)) (.cells #[.int .u64 s0, .int .u64 s1, .int .u64 s2, .int .u64 s3, .int .u64 s4, .int .u64 s5, .int .u64 s6, .int .u64 e, .int .u64 k] 31)) #[.int .u64 0, .int .u64 0, .int .u64 0, .int .u64 0, .int .u64 0, .int .u64 0, .int .u64 0, .int .u64 0, .int .u64 0] 31
        simp only [World.size_alloc] at h1 h2
        subst hW
        exact ⟨((h0.alloc _).alloc _), (h1.alloc _), h2, ((((Below.refl _ _).alloc (Nat.le_refl _) _).alloc (by simp only [World.size_alloc]; omega) _).alloc (by simp only [World.size_alloc]; omega) _)⟩
      clear hW
      generalize hb_oB : w.heap.size + 1 + 1 = b_oB at *
      generalize hb_sB : w.heap.size + 1 = b_sB at *
      have lt_cB := cB.lt
      have lt_sB := sB.lt
      have lt_oB := oB.lt
      have sB_7 : _ = some (Value.int .u64 e) := sB.cell 7
      have sB_8 : _ = some (Value.int .u64 k) := sB.cell 8
      go_upto_region 2 with (go_at_call 30; refine (CB _).mono ?_; rintro x' y ⟨rfl, L1⟩; replace cB := cB.below L1 lt_cB; replace sB := sB.below L1 lt_sB; replace oB := oB.below L1 lt_oB; replace hL := Base.next hL L1; replace lt_cB := cB.lt; replace lt_sB := sB.lt; replace lt_oB := oB.lt)
      refine at_any ?_
      intro X hX
      obtain ⟨rB', cB', sB', oB', hL'⟩ : Blk X y.heap.size #[.int .u64 e2, .int .u64 k2] 29 ∧ Blk X w.heap.size #[.int .i64 c.bits, .int .u64 c.one, .int .i64 c.ring, .int .u64 c.limit, .int .i64 c.room, .int .u64 c.mss, .int .u64 c.initial, .int .u64 c.least, .int .u64 c.most, .int .i64 c.algo, .int .u64 c.first, .int .u64 c.grain, .int .u64 c.cap, .int .u64 c.burst, .int .u64 c.slowest, .int .i64 c.chal, .int .u64 c.every] 24 ∧ Blk X b_sB #[.int .u64 s0, .int .u64 s1, .int .u64 s2, .int .u64 s3, .int .u64 s4, .int .u64 s5, .int .u64 s6, .int .u64 e, .int .u64 k] 31 ∧ Blk X b_oB #[.int .u64 0, .int .u64 0, .int .u64 0, .int .u64 0, .int .u64 0, .int .u64 0, .int .u64 0, .int .u64 0, .int .u64 0] 31 ∧ Below w.heap.size w X := by
        subst hX
        exact ⟨Blk.new _ _ _, cB.alloc _, sB.alloc _, oB.alloc _, hL.alloc hL.size _⟩
      have hgt : b_oB < y.heap.size := lt_oB
      clear hX cB sB oB hL
      clear lt_cB lt_sB lt_oB sB_7 sB_8
      generalize y.heap.size = b_rB at *
      have rB := rB'
      have cB := cB'
      have sB := sB'
      have oB := oB'
      have hL := hL'
      clear rB' cB' sB' oB' hL'
      have lt_rB := rB.lt
      have lt_cB := cB.lt
      have lt_sB := sB.lt
      have lt_oB := oB.lt
      go_upto_region 3 with (first | (refine wpl_load_row (by rfl) 24 (.tmp 4) rfl w.heap.size rfl 24 #[.int .i64 c.bits, .int .u64 c.one, .int .i64 c.ring, .int .u64 c.limit, .int .i64 c.room, .int .u64 c.mss, .int .u64 c.initial, .int .u64 c.least, .int .u64 c.most, .int .i64 c.algo, .int .u64 c.first, .int .u64 c.grain, .int .u64 c.cap, .int .u64 c.burst, .int .u64 c.slowest, .int .i64 c.chal, .int .u64 c.every] (0, 0) _ cB Try.underlying24 rfl (by kernel_rfl) ?_) | (go_at_call 24; refine (CK _).mono ?_; rintro x' y0 ⟨rfl, L0⟩; replace rB := rB.below L0 lt_rB; replace cB := cB.below L0 lt_cB; replace sB := sB.below L0 lt_sB; replace oB := oB.below L0 lt_oB; replace hL := Base.next hL L0; replace lt_rB := rB.lt; replace lt_cB := cB.lt; replace lt_sB := sB.lt; replace lt_oB := oB.lt; have sB_0 : _ = some (Value.int .u64 s0) := sB.cell 0; have sB_1 : _ = some (Value.int .u64 s1) := sB.cell 1; have sB_2 : _ = some (Value.int .u64 s2) := sB.cell 2; have sB_3 : _ = some (Value.int .u64 s3) := sB.cell 3; have sB_4 : _ = some (Value.int .u64 s4) := sB.cell 4; have sB_5 : _ = some (Value.int .u64 s5) := sB.cell 5; have sB_6 : _ = some (Value.int .u64 s6) := sB.cell 6; have sB_7 : _ = some (Value.int .u64 e) := sB.cell 7; have sB_8 : _ = some (Value.int .u64 k) := sB.cell 8))
      go_wp2_with (refine wpl_store_row rfl 31 (.tmp 8) (.tmp 27) rfl oB #[.int .u64 s0, .int .u64 s1, .int .u64 s2, .int .u64 s3, .int .u64 s4, .int .u64 s5, .int .u64 s6, .int .u64 e, .int .u64 k] rfl rfl (by kernel_rfl) rfl (by simp [Value.oneCell']) ?_)
      refine bodyPost_ret (Round.results_rowR rfl _ _ b_oB 31 #[.int .u64 s0, .int .u64 s1, .int .u64 s2, .int .u64 s3, .int .u64 s4, .int .u64 s5, .int .u64 s6, .int .u64 e, .int .u64 k] _ rfl (oB.setRow _) Try.underlying31 rfl (by kernel_rfl)) rfl ?_
      exact ⟨rfl, below_setRow' hL (by omega)⟩
    · have h0' : (pos (flags c) != 0) = true := by simpa using h0
      generalize pos (flags c) = vd at *
      cases decide (e ≤ pn)
      · go_enter Try.func14, Try.ntmps14
        go_upto_region 1 with fail
        refine at_any ?_
        intro W hW
        obtain ⟨cB, sB, oB, hL⟩ : Blk W w.heap.size #[.int .i64 c.bits, .int .u64 c.one, .int .i64 c.ring, .int .u64 c.limit, .int .i64 c.room, .int .u64 c.mss, .int .u64 c.initial, .int .u64 c.least, .int .u64 c.most, .int .i64 c.algo, .int .u64 c.first, .int .u64 c.grain, .int .u64 c.cap, .int .u64 c.burst, .int .u64 c.slowest, .int .i64 c.chal, .int .u64 c.every] 24 ∧ Blk W (w.heap.size + 1) #[.int .u64 s0, .int .u64 s1, .int .u64 s2, .int .u64 s3, .int .u64 s4, .int .u64 s5, .int .u64 s6, .int .u64 e, .int .u64 k] 31 ∧ Blk W (w.heap.size + 1 + 1) #[.int .u64 0, .int .u64 0, .int .u64 0, .int .u64 0, .int .u64 0, .int .u64 0, .int .u64 0, .int .u64 0, .int .u64 0] 31 ∧ Below w.heap.size w W := by
          have h0 := Blk.new (w) #[.int .i64 c.bits, .int .u64 c.one, .int .i64 c.ring, .int .u64 c.limit, .int .i64 c.room, .int .u64 c.mss, .int .u64 c.initial, .int .u64 c.least, .int .u64 c.most, .int .i64 c.algo, .int .u64 c.first, .int .u64 c.grain, .int .u64 c.cap, .int .u64 c.burst, .int .u64 c.slowest, .int .i64 c.chal, .int .u64 c.every] 24
          have h1 := Blk.new (World.alloc (w) (.cells #[.int .i64 c.bits, .int .u64 c.one, .int .i64 c.ring, .int .u64 c.limit, .int .i64 c.room, .int .u64 c.mss, .int .u64 c.initial, .int .u64 c.least, .int .u64 c.most, .int .i64 c.algo, .int .u64 c.first, .int .u64 c.grain, .int .u64 c.cap, .int .u64 c.burst, .int .u64 c.slowest, .int .i64 c.chal, .int .u64 c.every] 24)) #[.int .u64 s0, .int .u64 s1, .int .u64 s2, .int .u64 s3, .int .u64 s4, .int .u64 s5, .int .u64 s6, .int .u64 e, .int .u64 k] 31
          have h2 := Blk.new (World.alloc (World.alloc (w) (.cells #[.int .i64 c.bits, .int .u64 c.one, .int .i64 c.ring, .int .u64 c.limit, .int .i64 c.room, .int .u64 c.mss, .int .u64 c.initial, .int .u64 c.least, .int .u64 c.most, .int .i64 c.algo, .int .u64 c.first, .int .u64 c.grain, .int .u64 c.cap, .int .u64 c.burst, .int .u64 c.slowest, .int .i64 c.chal, .int .u64 c.every] 24)) (.cells #[.int .u64 s0, .int .u64 s1, .int .u64 s2, .int .u64 s3, .int .u64 s4, .int .u64 s5, .int .u64 s6, .int .u64 e, .int .u64 k] 31)) #[.int .u64 0, .int .u64 0, .int .u64 0, .int .u64 0, .int .u64 0, .int .u64 0, .int .u64 0, .int .u64 0, .int .u64 0] 31
          simp only [World.size_alloc] at h1 h2
          subst hW
          exact ⟨((h0.alloc _).alloc _), (h1.alloc _), h2, ((((Below.refl _ _).alloc (Nat.le_refl _) _).alloc (by simp only [World.size_alloc]; omega) _).alloc (by simp only [World.size_alloc]; omega) _)⟩
        clear hW
        generalize hb_oB : w.heap.size + 1 + 1 = b_oB at *
        generalize hb_sB : w.heap.size + 1 = b_sB at *
        have lt_cB := cB.lt
        have lt_sB := sB.lt
        have lt_oB := oB.lt
        have sB_7 : _ = some (Value.int .u64 e) := sB.cell 7
        have sB_8 : _ = some (Value.int .u64 k) := sB.cell 8
        go_upto_region 2 with (go_at_call 30; refine (CB _).mono ?_; rintro x' y ⟨rfl, L1⟩; replace cB := cB.below L1 lt_cB; replace sB := sB.below L1 lt_sB; replace oB := oB.below L1 lt_oB; replace hL := Base.next hL L1; replace lt_cB := cB.lt; replace lt_sB := sB.lt; replace lt_oB := oB.lt)
        refine at_any ?_
        intro X hX
        obtain ⟨rB', cB', sB', oB', hL'⟩ : Blk X y.heap.size #[.int .u64 e2, .int .u64 k2] 29 ∧ Blk X w.heap.size #[.int .i64 c.bits, .int .u64 c.one, .int .i64 c.ring, .int .u64 c.limit, .int .i64 c.room, .int .u64 c.mss, .int .u64 c.initial, .int .u64 c.least, .int .u64 c.most, .int .i64 c.algo, .int .u64 c.first, .int .u64 c.grain, .int .u64 c.cap, .int .u64 c.burst, .int .u64 c.slowest, .int .i64 c.chal, .int .u64 c.every] 24 ∧ Blk X b_sB #[.int .u64 s0, .int .u64 s1, .int .u64 s2, .int .u64 s3, .int .u64 s4, .int .u64 s5, .int .u64 s6, .int .u64 e, .int .u64 k] 31 ∧ Blk X b_oB #[.int .u64 0, .int .u64 0, .int .u64 0, .int .u64 0, .int .u64 0, .int .u64 0, .int .u64 0, .int .u64 0, .int .u64 0] 31 ∧ Below w.heap.size w X := by
          subst hX
          exact ⟨Blk.new _ _ _, cB.alloc _, sB.alloc _, oB.alloc _, hL.alloc hL.size _⟩
        have hgt : b_oB < y.heap.size := lt_oB
        clear hX cB sB oB hL
        clear lt_cB lt_sB lt_oB sB_7 sB_8
        generalize y.heap.size = b_rB at *
        have rB := rB'
        have cB := cB'
        have sB := sB'
        have oB := oB'
        have hL := hL'
        clear rB' cB' sB' oB' hL'
        have lt_rB := rB.lt
        have lt_cB := cB.lt
        have lt_sB := sB.lt
        have lt_oB := oB.lt
        go_upto_region 3 with (first | (refine wpl_load_row (by rfl) 24 (.tmp 4) rfl w.heap.size rfl 24 #[.int .i64 c.bits, .int .u64 c.one, .int .i64 c.ring, .int .u64 c.limit, .int .i64 c.room, .int .u64 c.mss, .int .u64 c.initial, .int .u64 c.least, .int .u64 c.most, .int .i64 c.algo, .int .u64 c.first, .int .u64 c.grain, .int .u64 c.cap, .int .u64 c.burst, .int .u64 c.slowest, .int .i64 c.chal, .int .u64 c.every] (0, 0) _ cB Try.underlying24 rfl (by kernel_rfl) ?_) | (go_at_call 24; refine (CK _).mono ?_; rintro x' y0 ⟨rfl, L0⟩; replace rB := rB.below L0 lt_rB; replace cB := cB.below L0 lt_cB; replace sB := sB.below L0 lt_sB; replace oB := oB.below L0 lt_oB; replace hL := Base.next hL L0; replace lt_rB := rB.lt; replace lt_cB := cB.lt; replace lt_sB := sB.lt; replace lt_oB := oB.lt; have sB_0 : _ = some (Value.int .u64 s0) := sB.cell 0; have sB_1 : _ = some (Value.int .u64 s1) := sB.cell 1; have sB_2 : _ = some (Value.int .u64 s2) := sB.cell 2; have sB_3 : _ = some (Value.int .u64 s3) := sB.cell 3; have sB_4 : _ = some (Value.int .u64 s4) := sB.cell 4; have sB_5 : _ = some (Value.int .u64 s5) := sB.cell 5; have sB_6 : _ = some (Value.int .u64 s6) := sB.cell 6; have sB_7 : _ = some (Value.int .u64 e) := sB.cell 7; have sB_8 : _ = some (Value.int .u64 k) := sB.cell 8))
        go_wp2_with (refine wpl_store_row rfl 31 (.tmp 8) (.tmp 27) rfl oB #[.int .u64 s0, .int .u64 s1, .int .u64 s2, .int .u64 s3, .int .u64 s4, .int .u64 s5, .int .u64 s6, .int .u64 e, .int .u64 k] rfl rfl (by kernel_rfl) rfl (by simp [Value.oneCell']) ?_)
        refine bodyPost_ret (Round.results_rowR rfl _ _ b_oB 31 #[.int .u64 s0, .int .u64 s1, .int .u64 s2, .int .u64 s3, .int .u64 s4, .int .u64 s5, .int .u64 s6, .int .u64 e, .int .u64 k] _ rfl (oB.setRow _) Try.underlying31 rfl (by kernel_rfl)) rfl ?_
        exact ⟨rfl, below_setRow' hL (by omega)⟩
      · go_enter Try.func14, Try.ntmps14
        go_upto_region 1 with fail
        refine at_any ?_
        intro W hW
        obtain ⟨cB, sB, oB, hL⟩ : Blk W w.heap.size #[.int .i64 c.bits, .int .u64 c.one, .int .i64 c.ring, .int .u64 c.limit, .int .i64 c.room, .int .u64 c.mss, .int .u64 c.initial, .int .u64 c.least, .int .u64 c.most, .int .i64 c.algo, .int .u64 c.first, .int .u64 c.grain, .int .u64 c.cap, .int .u64 c.burst, .int .u64 c.slowest, .int .i64 c.chal, .int .u64 c.every] 24 ∧ Blk W (w.heap.size + 1) #[.int .u64 s0, .int .u64 s1, .int .u64 s2, .int .u64 s3, .int .u64 s4, .int .u64 s5, .int .u64 s6, .int .u64 e, .int .u64 k] 31 ∧ Blk W (w.heap.size + 1 + 1) #[.int .u64 0, .int .u64 0, .int .u64 0, .int .u64 0, .int .u64 0, .int .u64 0, .int .u64 0, .int .u64 0, .int .u64 0] 31 ∧ Below w.heap.size w W := by
          have h0 := Blk.new (w) #[.int .i64 c.bits, .int .u64 c.one, .int .i64 c.ring, .int .u64 c.limit, .int .i64 c.room, .int .u64 c.mss, .int .u64 c.initial, .int .u64 c.least, .int .u64 c.most, .int .i64 c.algo, .int .u64 c.first, .int .u64 c.grain, .int .u64 c.cap, .int .u64 c.burst, .int .u64 c.slowest, .int .i64 c.chal, .int .u64 c.every] 24
          have h1 := Blk.new (World.alloc (w) (.cells #[.int .i64 c.bits, .int .u64 c.one, .int .i64 c.ring, .int .u64 c.limit, .int .i64 c.room, .int .u64 c.mss, .int .u64 c.initial, .int .u64 c.least, .int .u64 c.most, .int .i64 c.algo, .int .u64 c.first, .int .u64 c.grain, .int .u64 c.cap, .int .u64 c.burst, .int .u64 c.slowest, .int .i64 c.chal, .int .u64 c.every] 24)) #[.int .u64 s0, .int .u64 s1, .int .u64 s2, .int .u64 s3, .int .u64 s4, .int .u64 s5, .int .u64 s6, .int .u64 e, .int .u64 k] 31
          have h2 := Blk.new (World.alloc (World.alloc (w) (.cells #[.int .i64 c.bits, .int .u64 c.one, .int .i64 c.ring, .int .u64 c.limit, .int .i64 c.room, .int .u64 c.mss, .int .u64 c.initial, .int .u64 c.least, .int .u64 c.most, .int .i64 c.algo, .int .u64 c.first, .int .u64 c.grain, .int .u64 c.cap, .int .u64 c.burst, .int .u64 c.slowest, .int .i64 c.chal, .int .u64 c.every] 24)) (.cells #[.int .u64 s0, .int .u64 s1, .int .u64 s2, .int .u64 s3, .int .u64 s4, .int .u64 s5, .int .u64 s6, .int .u64 e, .int .u64 k] 31)) #[.int .u64 0, .int .u64 0, .int .u64 0, .int .u64 0, .int .u64 0, .int .u64 0, .int .u64 0, .int .u64 0, .int .u64 0] 31
          simp only [World.size_alloc] at h1 h2
          subst hW
          exact ⟨((h0.alloc _).alloc _), (h1.alloc _), h2, ((((Below.refl _ _).alloc (Nat.le_refl _) _).alloc (by simp only [World.size_alloc]; omega) _).alloc (by simp only [World.size_alloc]; omega) _)⟩
        clear hW
        generalize hb_oB : w.heap.size + 1 + 1 = b_oB at *
        generalize hb_sB : w.heap.size + 1 = b_sB at *
        have lt_cB := cB.lt
        have lt_sB := sB.lt
        have lt_oB := oB.lt
        have sB_7 : _ = some (Value.int .u64 e) := sB.cell 7
        have sB_8 : _ = some (Value.int .u64 k) := sB.cell 8
        go_upto_region 2 with (go_at_call 30; refine (CB _).mono ?_; rintro x' y ⟨rfl, L1⟩; replace cB := cB.below L1 lt_cB; replace sB := sB.below L1 lt_sB; replace oB := oB.below L1 lt_oB; replace hL := Base.next hL L1; replace lt_cB := cB.lt; replace lt_sB := sB.lt; replace lt_oB := oB.lt)
        refine at_any ?_
        intro X hX
        obtain ⟨rB', cB', sB', oB', hL'⟩ : Blk X y.heap.size #[.int .u64 e2, .int .u64 k2] 29 ∧ Blk X w.heap.size #[.int .i64 c.bits, .int .u64 c.one, .int .i64 c.ring, .int .u64 c.limit, .int .i64 c.room, .int .u64 c.mss, .int .u64 c.initial, .int .u64 c.least, .int .u64 c.most, .int .i64 c.algo, .int .u64 c.first, .int .u64 c.grain, .int .u64 c.cap, .int .u64 c.burst, .int .u64 c.slowest, .int .i64 c.chal, .int .u64 c.every] 24 ∧ Blk X b_sB #[.int .u64 s0, .int .u64 s1, .int .u64 s2, .int .u64 s3, .int .u64 s4, .int .u64 s5, .int .u64 s6, .int .u64 e, .int .u64 k] 31 ∧ Blk X b_oB #[.int .u64 0, .int .u64 0, .int .u64 0, .int .u64 0, .int .u64 0, .int .u64 0, .int .u64 0, .int .u64 0, .int .u64 0] 31 ∧ Below w.heap.size w X := by
          subst hX
          exact ⟨Blk.new _ _ _, cB.alloc _, sB.alloc _, oB.alloc _, hL.alloc hL.size _⟩
        have hgt : b_oB < y.heap.size := lt_oB
        clear hX cB sB oB hL
        clear lt_cB lt_sB lt_oB sB_7 sB_8
        generalize y.heap.size = b_rB at *
        have rB := rB'
        have cB := cB'
        have sB := sB'
        have oB := oB'
        have hL := hL'
        clear rB' cB' sB' oB' hL'
        have lt_rB := rB.lt
        have lt_cB := cB.lt
        have lt_sB := sB.lt
        have lt_oB := oB.lt
        go_upto_region 3 with (first | (refine wpl_load_row (by rfl) 24 (.tmp 4) rfl w.heap.size rfl 24 #[.int .i64 c.bits, .int .u64 c.one, .int .i64 c.ring, .int .u64 c.limit, .int .i64 c.room, .int .u64 c.mss, .int .u64 c.initial, .int .u64 c.least, .int .u64 c.most, .int .i64 c.algo, .int .u64 c.first, .int .u64 c.grain, .int .u64 c.cap, .int .u64 c.burst, .int .u64 c.slowest, .int .i64 c.chal, .int .u64 c.every] (0, 0) _ cB Try.underlying24 rfl (by kernel_rfl) ?_) | (go_at_call 24; refine (CK _).mono ?_; rintro x' y0 ⟨rfl, L0⟩; replace rB := rB.below L0 lt_rB; replace cB := cB.below L0 lt_cB; replace sB := sB.below L0 lt_sB; replace oB := oB.below L0 lt_oB; replace hL := Base.next hL L0; replace lt_rB := rB.lt; replace lt_cB := cB.lt; replace lt_sB := sB.lt; replace lt_oB := oB.lt; have sB_0 : _ = some (Value.int .u64 s0) := sB.cell 0; have sB_1 : _ = some (Value.int .u64 s1) := sB.cell 1; have sB_2 : _ = some (Value.int .u64 s2) := sB.cell 2; have sB_3 : _ = some (Value.int .u64 s3) := sB.cell 3; have sB_4 : _ = some (Value.int .u64 s4) := sB.cell 4; have sB_5 : _ = some (Value.int .u64 s5) := sB.cell 5; have sB_6 : _ = some (Value.int .u64 s6) := sB.cell 6; have sB_7 : _ = some (Value.int .u64 e) := sB.cell 7; have sB_8 : _ = some (Value.int .u64 k) := sB.cell 8))
        go_wp2_with (refine wpl_store_row rfl 31 (.tmp 8) (.tmp 27) rfl oB #[.int .u64 s0, .int .u64 s1, .int .u64 s2, .int .u64 s3, .int .u64 s4, .int .u64 s5, .int .u64 s6, .int .u64 e, .int .u64 k] rfl rfl (by kernel_rfl) rfl (by simp [Value.oneCell']) ?_)
        refine bodyPost_ret (Round.results_rowR rfl _ _ b_oB 31 #[.int .u64 s0, .int .u64 s1, .int .u64 s2, .int .u64 s3, .int .u64 s4, .int .u64 s5, .int .u64 s6, .int .u64 e, .int .u64 k] _ rfl (oB.setRow _) Try.underlying31 rfl (by kernel_rfl)) rfl ?_
        exact ⟨rfl, below_setRow' hL (by omega)⟩
  | true =>
    rw [loss_yes hB]
    unfold lossB at hB
    obtain ⟨⟨s0, s1, s2, s3, s4, s5, s6⟩, ⟨e, k⟩⟩ := s
    simp only at CB hB CV
    unfold WinPost at CV
    unfold kc
    simp only
    generalize cutK c ⟨s0, s1, s2, s3, s4, s5, s6⟩ 10 14 = v at *
    obtain ⟨q0, q1, q2, q3, q4, q5, q6⟩ := v
    generalize beginP ⟨e, k⟩ pn next = d2 at *
    obtain ⟨e2, k2⟩ := d2
    unfold wc at CV
    simp only at CB CV ⊢
    simp only [Bool.and_eq_true, decide_eq_true_eq] at hB
    rw [hB.1] at CK
    rw [show decide (e ≤ pn) = true from decide_eq_true hB.2] at CB
    go_enter Try.func14, Try.ntmps14
    go_upto_region 1 with fail
    refine at_any ?_
    intro W hW
    obtain ⟨cB, sB, oB, hL⟩ : Blk W w.heap.size #[.int .i64 c.bits, .int .u64 c.one, .int .i64 c.ring, .int .u64 c.limit, .int .i64 c.room, .int .u64 c.mss, .int .u64 c.initial, .int .u64 c.least, .int .u64 c.most, .int .i64 c.algo, .int .u64 c.first, .int .u64 c.grain, .int .u64 c.cap, .int .u64 c.burst, .int .u64 c.slowest, .int .i64 c.chal, .int .u64 c.every] 24 ∧ Blk W (w.heap.size + 1) #[.int .u64 s0, .int .u64 s1, .int .u64 s2, .int .u64 s3, .int .u64 s4, .int .u64 s5, .int .u64 s6, .int .u64 e, .int .u64 k] 31 ∧ Blk W (w.heap.size + 1 + 1) #[.int .u64 0, .int .u64 0, .int .u64 0, .int .u64 0, .int .u64 0, .int .u64 0, .int .u64 0, .int .u64 0, .int .u64 0] 31 ∧ Below w.heap.size w W := by
      have h0 := Blk.new (w) #[.int .i64 c.bits, .int .u64 c.one, .int .i64 c.ring, .int .u64 c.limit, .int .i64 c.room, .int .u64 c.mss, .int .u64 c.initial, .int .u64 c.least, .int .u64 c.most, .int .i64 c.algo, .int .u64 c.first, .int .u64 c.grain, .int .u64 c.cap, .int .u64 c.burst, .int .u64 c.slowest, .int .i64 c.chal, .int .u64 c.every] 24
      have h1 := Blk.new (World.alloc (w) (.cells #[.int .i64 c.bits, .int .u64 c.one, .int .i64 c.ring, .int .u64 c.limit, .int .i64 c.room, .int .u64 c.mss, .int .u64 c.initial, .int .u64 c.least, .int .u64 c.most, .int .i64 c.algo, .int .u64 c.first, .int .u64 c.grain, .int .u64 c.cap, .int .u64 c.burst, .int .u64 c.slowest, .int .i64 c.chal, .int .u64 c.every] 24)) #[.int .u64 s0, .int .u64 s1, .int .u64 s2, .int .u64 s3, .int .u64 s4, .int .u64 s5, .int .u64 s6, .int .u64 e, .int .u64 k] 31
      have h2 := Blk.new (World.alloc (World.alloc (w) (.cells #[.int .i64 c.bits, .int .u64 c.one, .int .i64 c.ring, .int .u64 c.limit, .int .i64 c.room, .int .u64 c.mss, .int .u64 c.initial, .int .u64 c.least, .int .u64 c.most, .int .i64 c.algo, .int .u64 c.first, .int .u64 c.grain, .int .u64 c.cap, .int .u64 c.burst, .int .u64 c.slowest, .int .i64 c.chal, .int .u64 c.every] 24)) (.cells #[.int .u64 s0, .int .u64 s1, .int .u64 s2, .int .u64 s3, .int .u64 s4, .int .u64 s5, .int .u64 s6, .int .u64 e, .int .u64 k] 31)) #[.int .u64 0, .int .u64 0, .int .u64 0, .int .u64 0, .int .u64 0, .int .u64 0, .int .u64 0, .int .u64 0, .int .u64 0] 31
      simp only [World.size_alloc] at h1 h2
      subst hW
      exact ⟨((h0.alloc _).alloc _), (h1.alloc _), h2, ((((Below.refl _ _).alloc (Nat.le_refl _) _).alloc (by simp only [World.size_alloc]; omega) _).alloc (by simp only [World.size_alloc]; omega) _)⟩
    clear hW
    generalize hb_oB : w.heap.size + 1 + 1 = b_oB at *
    generalize hb_sB : w.heap.size + 1 = b_sB at *
    have lt_cB := cB.lt
    have lt_sB := sB.lt
    have lt_oB := oB.lt
    have sB_7 : _ = some (Value.int .u64 e) := sB.cell 7
    have sB_8 : _ = some (Value.int .u64 k) := sB.cell 8
    go_upto_region 2 with (go_at_call 30; refine (CB _).mono ?_; rintro x' y ⟨rfl, L1⟩; replace cB := cB.below L1 lt_cB; replace sB := sB.below L1 lt_sB; replace oB := oB.below L1 lt_oB; replace hL := Base.next hL L1; replace lt_cB := cB.lt; replace lt_sB := sB.lt; replace lt_oB := oB.lt)
    refine at_any ?_
    intro X hX
    obtain ⟨rB', cB', sB', oB', hL'⟩ : Blk X y.heap.size #[.int .u64 e2, .int .u64 k2] 29 ∧ Blk X w.heap.size #[.int .i64 c.bits, .int .u64 c.one, .int .i64 c.ring, .int .u64 c.limit, .int .i64 c.room, .int .u64 c.mss, .int .u64 c.initial, .int .u64 c.least, .int .u64 c.most, .int .i64 c.algo, .int .u64 c.first, .int .u64 c.grain, .int .u64 c.cap, .int .u64 c.burst, .int .u64 c.slowest, .int .i64 c.chal, .int .u64 c.every] 24 ∧ Blk X b_sB #[.int .u64 s0, .int .u64 s1, .int .u64 s2, .int .u64 s3, .int .u64 s4, .int .u64 s5, .int .u64 s6, .int .u64 e, .int .u64 k] 31 ∧ Blk X b_oB #[.int .u64 0, .int .u64 0, .int .u64 0, .int .u64 0, .int .u64 0, .int .u64 0, .int .u64 0, .int .u64 0, .int .u64 0] 31 ∧ Below w.heap.size w X := by
      subst hX
      exact ⟨Blk.new _ _ _, cB.alloc _, sB.alloc _, oB.alloc _, hL.alloc hL.size _⟩
    have hgt : b_oB < y.heap.size := lt_oB
    clear hX cB sB oB hL
    clear lt_cB lt_sB lt_oB sB_7 sB_8
    generalize y.heap.size = b_rB at *
    have rB := rB'
    have cB := cB'
    have sB := sB'
    have oB := oB'
    have hL := hL'
    clear rB' cB' sB' oB' hL'
    have lt_rB := rB.lt
    have lt_cB := cB.lt
    have lt_sB := sB.lt
    have lt_oB := oB.lt
    go_upto_region 4 with (first | (refine wpl_load_row (by rfl) 24 (.tmp 4) rfl w.heap.size rfl 24 #[.int .i64 c.bits, .int .u64 c.one, .int .i64 c.ring, .int .u64 c.limit, .int .i64 c.room, .int .u64 c.mss, .int .u64 c.initial, .int .u64 c.least, .int .u64 c.most, .int .i64 c.algo, .int .u64 c.first, .int .u64 c.grain, .int .u64 c.cap, .int .u64 c.burst, .int .u64 c.slowest, .int .i64 c.chal, .int .u64 c.every] (0, 0) _ cB Try.underlying24 rfl (by kernel_rfl) ?_) | (go_at_call 24; refine (CK _).mono ?_; rintro x' y0 ⟨rfl, L0⟩; replace rB := rB.below L0 lt_rB; replace cB := cB.below L0 lt_cB; replace sB := sB.below L0 lt_sB; replace oB := oB.below L0 lt_oB; replace hL := Base.next hL L0; replace lt_rB := rB.lt; replace lt_cB := cB.lt; replace lt_sB := sB.lt; replace lt_oB := oB.lt))
    refine at_any ?_
    intro Y hY
    obtain ⟨rB', cB', sB', oB', hL'⟩ : Blk Y b_rB #[.int .u64 e2, .int .u64 k2] 29 ∧ Blk Y w.heap.size #[.int .i64 c.bits, .int .u64 c.one, .int .i64 c.ring, .int .u64 c.limit, .int .i64 c.room, .int .u64 c.mss, .int .u64 c.initial, .int .u64 c.least, .int .u64 c.most, .int .i64 c.algo, .int .u64 c.first, .int .u64 c.grain, .int .u64 c.cap, .int .u64 c.burst, .int .u64 c.slowest, .int .i64 c.chal, .int .u64 c.every] 24 ∧ Blk Y b_sB #[.int .u64 s0, .int .u64 s1, .int .u64 s2, .int .u64 s3, .int .u64 s4, .int .u64 s5, .int .u64 s6, .int .u64 e, .int .u64 k] 31 ∧ Blk Y b_oB #[.int .u64 0, .int .u64 0, .int .u64 0, .int .u64 0, .int .u64 0, .int .u64 0, .int .u64 0, .int .u64 0, .int .u64 0] 31 ∧ Below w.heap.size w Y := by
      subst hY
      exact ⟨rB, cB, sB, oB, hL⟩
    clear hY rB cB sB oB hL
    clear lt_rB lt_cB lt_sB lt_oB
    have f0 := fun p : In (Lt Y) => inCell p (o := 0) (v := .int .i64 c.bits) (cB'.cell 0)
    have f1 := fun p : In (Lt Y) => inCell p (o := 1) (v := .int .u64 c.one) (cB'.cell 1)
    have f2 := fun p : In (Lt Y) => inCell p (o := 2) (v := .int .i64 c.ring) (cB'.cell 2)
    have f3 := fun p : In (Lt Y) => inCell p (o := 3) (v := .int .u64 c.limit) (cB'.cell 3)
    have f4 := fun p : In (Lt Y) => inCell p (o := 4) (v := .int .i64 c.room) (cB'.cell 4)
    have f5 := fun p : In (Lt Y) => inCell p (o := 5) (v := .int .u64 c.mss) (cB'.cell 5)
    have f6 := fun p : In (Lt Y) => inCell p (o := 6) (v := .int .u64 c.initial) (cB'.cell 6)
    have f7 := fun p : In (Lt Y) => inCell p (o := 7) (v := .int .u64 c.least) (cB'.cell 7)
    have f8 := fun p : In (Lt Y) => inCell p (o := 8) (v := .int .u64 c.most) (cB'.cell 8)
    have f9 := fun p : In (Lt Y) => inCell p (o := 9) (v := .int .i64 c.algo) (cB'.cell 9)
    have f10 := fun p : In (Lt Y) => inCell p (o := 10) (v := .int .u64 c.first) (cB'.cell 10)
    have f11 := fun p : In (Lt Y) => inCell p (o := 11) (v := .int .u64 c.grain) (cB'.cell 11)
    have f12 := fun p : In (Lt Y) => inCell p (o := 12) (v := .int .u64 c.cap) (cB'.cell 12)
    have f13 := fun p : In (Lt Y) => inCell p (o := 13) (v := .int .u64 c.burst) (cB'.cell 13)
    have f14 := fun p : In (Lt Y) => inCell p (o := 14) (v := .int .u64 c.slowest) (cB'.cell 14)
    have f15 := fun p : In (Lt Y) => inCell p (o := 15) (v := .int .i64 c.chal) (cB'.cell 15)
    have f16 := fun p : In (Lt Y) => inCell p (o := 16) (v := .int .u64 c.every) (cB'.cell 16)
    have g0 := fun p : In (Lt Y) => inCell p (o := 0) (v := .int .u64 s0) (sB'.cell 0)
    have g1 := fun p : In (Lt Y) => inCell p (o := 1) (v := .int .u64 s1) (sB'.cell 1)
    have g2 := fun p : In (Lt Y) => inCell p (o := 2) (v := .int .u64 s2) (sB'.cell 2)
    have g3 := fun p : In (Lt Y) => inCell p (o := 3) (v := .int .u64 s3) (sB'.cell 3)
    have g4 := fun p : In (Lt Y) => inCell p (o := 4) (v := .int .u64 s4) (sB'.cell 4)
    have g5 := fun p : In (Lt Y) => inCell p (o := 5) (v := .int .u64 s5) (sB'.cell 5)
    have g6 := fun p : In (Lt Y) => inCell p (o := 6) (v := .int .u64 s6) (sB'.cell 6)
    have r0 := fun p : In (Lt Y) => inCell p (o := 0) (v := .int .u64 e2) (rB'.cell 0)
    have r1 := fun p : In (Lt Y) => inCell p (o := 1) (v := .int .u64 k2) (rB'.cell 1)
    refine wp_region_rest (C := fun w' => ∃ p : In (Lt Y), w' = p.w) 6 2 (by kernel_rfl) (by kernel_rfl) (by kernel_rfl) (by kernel_rfl) (by kernel_rfl) ⟨⟨Y.drew, Lt.drew Y⟩, rfl⟩ ?_
    simp only [List.toList_toArray, List.take_succ_cons, List.take_zero]
    repeat (go_big_quiet_step (first | (go_at_call 31; refine in_below (v := .agg #[.int .u64 q0, .int .u64 q1, .int .u64 q2, .int .u64 q3, .int .u64 q4, .int .u64 q5, .int .u64 q6]) ?_; exact CV _)))
    refine wpQuiet_nil ?_
    rintro w5 ⟨⟨_, hw5⟩, rfl⟩
    have hw5 : Below Y.heap.size Y w5 := hw5
    clear f0 f1 f2 f3 f4 f5 f6 f7 f8 f9 f10 f11 f12 f13 f14 f15 f16 g0 g1 g2 g3 g4 g5 g6 r0 r1 CV
    have oB5 := oB'.below hw5 oB'.lt
    have hL5 := Base.next hL' hw5
    refine wpAny_of_held (S := fun _ => True) _ _ _ _ ?_
    refine held_st (i := 6) rfl (by kernel_rfl) (by kernel_rfl) (st_row 31 (.tmp 8) (.tmp 33) rfl (g := b_oB) (cells := #[.int .u64 q0, .int .u64 q1, .int .u64 q2, .int .u64 q3, .int .u64 q4, .int .u64 q5, .int .u64 q6, .int .u64 e2, .int .u64 k2]) (by kernel_rfl) (by kernel_rfl) oB5 (by kernel_rfl) rfl (by simp [Value.oneCell'])) trivial ?_
    refine held_one (i := 7) (v := .bool true) (w' := w5.setRow b_oB #[.int .u64 q0, .int .u64 q1, .int .u64 q2, .int .u64 q3, .int .u64 q4, .int .u64 q5, .int .u64 q6, .int .u64 e2, .int .u64 k2]) rfl (by kernel_rfl) (by kernel_rfl) (by kernel_rfl) trivial ?_
    refine held_done (by kernel_rfl) ?_
    have oB6 : Blk (w5.setRow b_oB #[.int .u64 q0, .int .u64 q1, .int .u64 q2, .int .u64 q3, .int .u64 q4, .int .u64 q5, .int .u64 q6, .int .u64 e2, .int .u64 k2]) b_oB #[.int .u64 q0, .int .u64 q1, .int .u64 q2, .int .u64 q3, .int .u64 q4, .int .u64 q5, .int .u64 q6, .int .u64 e2, .int .u64 k2] 31 := oB5.setRow _
    have hL6 : Below w.heap.size w (w5.setRow b_oB #[.int .u64 q0, .int .u64 q1, .int .u64 q2, .int .u64 q3, .int .u64 q4, .int .u64 q5, .int .u64 q6, .int .u64 e2, .int .u64 k2]) := below_setRow' hL5 (by omega)
    generalize w5.setRow b_oB #[.int .u64 q0, .int .u64 q1, .int .u64 q2, .int .u64 q3, .int .u64 q4, .int .u64 q5, .int .u64 q6, .int .u64 e2, .int .u64 k2] = Z at *
    go_wp2
    refine bodyPost_ret (Round.results_rowR rfl _ _ b_oB 31 #[.int .u64 q0, .int .u64 q1, .int .u64 q2, .int .u64 q3, .int .u64 q4, .int .u64 q5, .int .u64 q6, .int .u64 e2, .int .u64 k2] _ rfl oB6 Try.underlying31 rfl (by kernel_rfl)) rfl ?_
    exact ⟨rfl, hL6⟩
set_option maxHeartbeats 4000000 in
theorem ref_mark (c : C) (hc : CFit c) (s : Kc) (hs : KFit s) (pn next : Int) (hp : U pn) (hn : U next) (w : World) :
    Calls Try.prog 16 #[.agg #[.int .i64 c.bits, .int .u64 c.one, .int .i64 c.ring, .int .u64 c.limit, .int .i64 c.room, .int .u64 c.mss, .int .u64 c.initial, .int .u64 c.least, .int .u64 c.most, .int .i64 c.algo, .int .u64 c.first, .int .u64 c.grain, .int .u64 c.cap, .int .u64 c.burst, .int .u64 c.slowest, .int .i64 c.chal, .int .u64 c.every], .agg (kc s), .int .u64 pn, .int .u64 next] w fun e w' => e = .returned (.tuple #[.agg (kc (lossK c s pn next 16 17)), .bool (lossB c s pn)]) ∧ Below w.heap.size w w' := by
  have CK := fun V => ref_check c hc.mss.1 hc.mss.2 V
  have CB := fun V => Round.ref_begin s.d hs.d pn next hp.1 hp.2 hn.1 hn.2 V
  have CV := fun V => ref_cutk c hc s.w hs.w 16 17 ⟨by decide, by decide⟩ ⟨by decide, by decide⟩ V
  unfold freshP at CB
  cases hB : lossB c s pn with
  | false =>
    rw [loss_no hB]
    clear CV
    unfold lossB at hB
    obtain ⟨⟨s0, s1, s2, s3, s4, s5, s6⟩, ⟨e, k⟩⟩ := s
    simp only at CB hB
    unfold kc
    simp only
    generalize beginP ⟨e, k⟩ pn next = d2 at *
    obtain ⟨e2, k2⟩ := d2
    simp only at CB
    by_cases h0 : pos (flags c) = 0
    · rw [h0] at CK
      have h1 : decide (e ≤ pn) = false := by rw [h0] at hB; simpa using hB
      rw [h1] at CB
      go_enter Try.func16, Try.ntmps16
      go_upto_region 1 with fail
      refine at_any ?_
      intro W hW
      obtain ⟨cB, sB, oB, hL⟩ : Blk W w.heap.size #[.int .i64 c.bits, .int .u64 c.one, .int .i64 c.ring, .int .u64 c.limit, .int .i64 c.room, .int .u64 c.mss, .int .u64 c.initial, .int .u64 c.least, .int .u64 c.most, .int .i64 c.algo, .int .u64 c.first, .int .u64 c.grain, .int .u64 c.cap, .int .u64 c.burst, .int .u64 c.slowest, .int .i64 c.chal, .int .u64 c.every] 24 ∧ Blk W (w.heap.size + 1) #[.int .u64 s0, .int .u64 s1, .int .u64 s2, .int .u64 s3, .int .u64 s4, .int .u64 s5, .int .u64 s6, .int .u64 e, .int .u64 k] 31 ∧ Blk W (w.heap.size + 1 + 1) #[.int .u64 0, .int .u64 0, .int .u64 0, .int .u64 0, .int .u64 0, .int .u64 0, .int .u64 0, .int .u64 0, .int .u64 0] 31 ∧ Below w.heap.size w W := by
        have h0 := Blk.new (w) #[.int .i64 c.bits, .int .u64 c.one, .int .i64 c.ring, .int .u64 c.limit, .int .i64 c.room, .int .u64 c.mss, .int .u64 c.initial, .int .u64 c.least, .int .u64 c.most, .int .i64 c.algo, .int .u64 c.first, .int .u64 c.grain, .int .u64 c.cap, .int .u64 c.burst, .int .u64 c.slowest, .int .i64 c.chal, .int .u64 c.every] 24
        have h1 := Blk.new (World.alloc (w) (.cells #[.int .i64 c.bits, .int .u64 c.one, .int .i64 c.ring, .int .u64 c.limit, .int .i64 c.room, .int .u64 c.mss, .int .u64 c.initial, .int .u64 c.least, .int .u64 c.most, .int .i64 c.algo, .int .u64 c.first, .int .u64 c.grain, .int .u64 c.cap, .int .u64 c.burst, .int .u64 c.slowest, .int .i64 c.chal, .int .u64 c.every] 24)) #[.int .u64 s0, .int .u64 s1, .int .u64 s2, .int .u64 s3, .int .u64 s4, .int .u64 s5, .int .u64 s6, .int .u64 e, .int .u64 k] 31
        have h2 := Blk.new (World.alloc (World.alloc (w) (.cells #[.int .i64 c.bits, .int .u64 c.one, .int .i64 c.ring, .int .u64 c.limit, .int .i64 c.room, .int .u64 c.mss, .int .u64 c.initial, .int .u64 c.least, .int .u64 c.most, .int .i64 c.algo, .int .u64 c.first, .int .u64 c.grain, .int .u64 c.cap, .int .u64 c.burst, .int .u64 c.slowest, .int .i64 c.chal, .int .u64 c.every] 24)) (.cells #[.int .u64 s0, .int .u64 s1, .int .u64 s2, .int .u64 s3, .int .u64 s4, .int .u64 s5, .int .u64 s6, .int .u64 e, .int .u64 k] 31)) #[.int .u64 0, .int .u64 0, .int .u64 0, .int .u64 0, .int .u64 0, .int .u64 0, .int .u64 0, .int .u64 0, .int .u64 0] 31
        simp only [World.size_alloc] at h1 h2
        subst hW
        exact ⟨((h0.alloc _).alloc _), (h1.alloc _), h2, ((((Below.refl _ _).alloc (Nat.le_refl _) _).alloc (by simp only [World.size_alloc]; omega) _).alloc (by simp only [World.size_alloc]; omega) _)⟩
      clear hW
      generalize hb_oB : w.heap.size + 1 + 1 = b_oB at *
      generalize hb_sB : w.heap.size + 1 = b_sB at *
      have lt_cB := cB.lt
      have lt_sB := sB.lt
      have lt_oB := oB.lt
      have sB_7 : _ = some (Value.int .u64 e) := sB.cell 7
      have sB_8 : _ = some (Value.int .u64 k) := sB.cell 8
      go_upto_region 2 with (go_at_call 30; refine (CB _).mono ?_; rintro x' y ⟨rfl, L1⟩; replace cB := cB.below L1 lt_cB; replace sB := sB.below L1 lt_sB; replace oB := oB.below L1 lt_oB; replace hL := Base.next hL L1; replace lt_cB := cB.lt; replace lt_sB := sB.lt; replace lt_oB := oB.lt)
      refine at_any ?_
      intro X hX
      obtain ⟨rB', cB', sB', oB', hL'⟩ : Blk X y.heap.size #[.int .u64 e2, .int .u64 k2] 29 ∧ Blk X w.heap.size #[.int .i64 c.bits, .int .u64 c.one, .int .i64 c.ring, .int .u64 c.limit, .int .i64 c.room, .int .u64 c.mss, .int .u64 c.initial, .int .u64 c.least, .int .u64 c.most, .int .i64 c.algo, .int .u64 c.first, .int .u64 c.grain, .int .u64 c.cap, .int .u64 c.burst, .int .u64 c.slowest, .int .i64 c.chal, .int .u64 c.every] 24 ∧ Blk X b_sB #[.int .u64 s0, .int .u64 s1, .int .u64 s2, .int .u64 s3, .int .u64 s4, .int .u64 s5, .int .u64 s6, .int .u64 e, .int .u64 k] 31 ∧ Blk X b_oB #[.int .u64 0, .int .u64 0, .int .u64 0, .int .u64 0, .int .u64 0, .int .u64 0, .int .u64 0, .int .u64 0, .int .u64 0] 31 ∧ Below w.heap.size w X := by
        subst hX
        exact ⟨Blk.new _ _ _, cB.alloc _, sB.alloc _, oB.alloc _, hL.alloc hL.size _⟩
      have hgt : b_oB < y.heap.size := lt_oB
      clear hX cB sB oB hL
      clear lt_cB lt_sB lt_oB sB_7 sB_8
      generalize y.heap.size = b_rB at *
      have rB := rB'
      have cB := cB'
      have sB := sB'
      have oB := oB'
      have hL := hL'
      clear rB' cB' sB' oB' hL'
      have lt_rB := rB.lt
      have lt_cB := cB.lt
      have lt_sB := sB.lt
      have lt_oB := oB.lt
      go_upto_region 3 with (first | (refine wpl_load_row (by rfl) 24 (.tmp 4) rfl w.heap.size rfl 24 #[.int .i64 c.bits, .int .u64 c.one, .int .i64 c.ring, .int .u64 c.limit, .int .i64 c.room, .int .u64 c.mss, .int .u64 c.initial, .int .u64 c.least, .int .u64 c.most, .int .i64 c.algo, .int .u64 c.first, .int .u64 c.grain, .int .u64 c.cap, .int .u64 c.burst, .int .u64 c.slowest, .int .i64 c.chal, .int .u64 c.every] (0, 0) _ cB Try.underlying24 rfl (by kernel_rfl) ?_) | (go_at_call 24; refine (CK _).mono ?_; rintro x' y0 ⟨rfl, L0⟩; replace rB := rB.below L0 lt_rB; replace cB := cB.below L0 lt_cB; replace sB := sB.below L0 lt_sB; replace oB := oB.below L0 lt_oB; replace hL := Base.next hL L0; replace lt_rB := rB.lt; replace lt_cB := cB.lt; replace lt_sB := sB.lt; replace lt_oB := oB.lt; have sB_0 : _ = some (Value.int .u64 s0) := sB.cell 0; have sB_1 : _ = some (Value.int .u64 s1) := sB.cell 1; have sB_2 : _ = some (Value.int .u64 s2) := sB.cell 2; have sB_3 : _ = some (Value.int .u64 s3) := sB.cell 3; have sB_4 : _ = some (Value.int .u64 s4) := sB.cell 4; have sB_5 : _ = some (Value.int .u64 s5) := sB.cell 5; have sB_6 : _ = some (Value.int .u64 s6) := sB.cell 6; have sB_7 : _ = some (Value.int .u64 e) := sB.cell 7; have sB_8 : _ = some (Value.int .u64 k) := sB.cell 8))
      go_wp2_with (refine wpl_store_row rfl 31 (.tmp 8) (.tmp 27) rfl oB #[.int .u64 s0, .int .u64 s1, .int .u64 s2, .int .u64 s3, .int .u64 s4, .int .u64 s5, .int .u64 s6, .int .u64 e, .int .u64 k] rfl rfl (by kernel_rfl) rfl (by simp [Value.oneCell']) ?_)
      refine bodyPost_ret (Round.results_rowR rfl _ _ b_oB 31 #[.int .u64 s0, .int .u64 s1, .int .u64 s2, .int .u64 s3, .int .u64 s4, .int .u64 s5, .int .u64 s6, .int .u64 e, .int .u64 k] _ rfl (oB.setRow _) Try.underlying31 rfl (by kernel_rfl)) rfl ?_
      exact ⟨rfl, below_setRow' hL (by omega)⟩
    · have h0' : (pos (flags c) != 0) = true := by simpa using h0
      generalize pos (flags c) = vd at *
      cases decide (e ≤ pn)
      · go_enter Try.func16, Try.ntmps16
        go_upto_region 1 with fail
        refine at_any ?_
        intro W hW
        obtain ⟨cB, sB, oB, hL⟩ : Blk W w.heap.size #[.int .i64 c.bits, .int .u64 c.one, .int .i64 c.ring, .int .u64 c.limit, .int .i64 c.room, .int .u64 c.mss, .int .u64 c.initial, .int .u64 c.least, .int .u64 c.most, .int .i64 c.algo, .int .u64 c.first, .int .u64 c.grain, .int .u64 c.cap, .int .u64 c.burst, .int .u64 c.slowest, .int .i64 c.chal, .int .u64 c.every] 24 ∧ Blk W (w.heap.size + 1) #[.int .u64 s0, .int .u64 s1, .int .u64 s2, .int .u64 s3, .int .u64 s4, .int .u64 s5, .int .u64 s6, .int .u64 e, .int .u64 k] 31 ∧ Blk W (w.heap.size + 1 + 1) #[.int .u64 0, .int .u64 0, .int .u64 0, .int .u64 0, .int .u64 0, .int .u64 0, .int .u64 0, .int .u64 0, .int .u64 0] 31 ∧ Below w.heap.size w W := by
          have h0 := Blk.new (w) #[.int .i64 c.bits, .int .u64 c.one, .int .i64 c.ring, .int .u64 c.limit, .int .i64 c.room, .int .u64 c.mss, .int .u64 c.initial, .int .u64 c.least, .int .u64 c.most, .int .i64 c.algo, .int .u64 c.first, .int .u64 c.grain, .int .u64 c.cap, .int .u64 c.burst, .int .u64 c.slowest, .int .i64 c.chal, .int .u64 c.every] 24
          have h1 := Blk.new (World.alloc (w) (.cells #[.int .i64 c.bits, .int .u64 c.one, .int .i64 c.ring, .int .u64 c.limit, .int .i64 c.room, .int .u64 c.mss, .int .u64 c.initial, .int .u64 c.least, .int .u64 c.most, .int .i64 c.algo, .int .u64 c.first, .int .u64 c.grain, .int .u64 c.cap, .int .u64 c.burst, .int .u64 c.slowest, .int .i64 c.chal, .int .u64 c.every] 24)) #[.int .u64 s0, .int .u64 s1, .int .u64 s2, .int .u64 s3, .int .u64 s4, .int .u64 s5, .int .u64 s6, .int .u64 e, .int .u64 k] 31
          have h2 := Blk.new (World.alloc (World.alloc (w) (.cells #[.int .i64 c.bits, .int .u64 c.one, .int .i64 c.ring, .int .u64 c.limit, .int .i64 c.room, .int .u64 c.mss, .int .u64 c.initial, .int .u64 c.least, .int .u64 c.most, .int .i64 c.algo, .int .u64 c.first, .int .u64 c.grain, .int .u64 c.cap, .int .u64 c.burst, .int .u64 c.slowest, .int .i64 c.chal, .int .u64 c.every] 24)) (.cells #[.int .u64 s0, .int .u64 s1, .int .u64 s2, .int .u64 s3, .int .u64 s4, .int .u64 s5, .int .u64 s6, .int .u64 e, .int .u64 k] 31)) #[.int .u64 0, .int .u64 0, .int .u64 0, .int .u64 0, .int .u64 0, .int .u64 0, .int .u64 0, .int .u64 0, .int .u64 0] 31
          simp only [World.size_alloc] at h1 h2
          subst hW
          exact ⟨((h0.alloc _).alloc _), (h1.alloc _), h2, ((((Below.refl _ _).alloc (Nat.le_refl _) _).alloc (by simp only [World.size_alloc]; omega) _).alloc (by simp only [World.size_alloc]; omega) _)⟩
        clear hW
        generalize hb_oB : w.heap.size + 1 + 1 = b_oB at *
        generalize hb_sB : w.heap.size + 1 = b_sB at *
        have lt_cB := cB.lt
        have lt_sB := sB.lt
        have lt_oB := oB.lt
        have sB_7 : _ = some (Value.int .u64 e) := sB.cell 7
        have sB_8 : _ = some (Value.int .u64 k) := sB.cell 8
        go_upto_region 2 with (go_at_call 30; refine (CB _).mono ?_; rintro x' y ⟨rfl, L1⟩; replace cB := cB.below L1 lt_cB; replace sB := sB.below L1 lt_sB; replace oB := oB.below L1 lt_oB; replace hL := Base.next hL L1; replace lt_cB := cB.lt; replace lt_sB := sB.lt; replace lt_oB := oB.lt)
        refine at_any ?_
        intro X hX
        obtain ⟨rB', cB', sB', oB', hL'⟩ : Blk X y.heap.size #[.int .u64 e2, .int .u64 k2] 29 ∧ Blk X w.heap.size #[.int .i64 c.bits, .int .u64 c.one, .int .i64 c.ring, .int .u64 c.limit, .int .i64 c.room, .int .u64 c.mss, .int .u64 c.initial, .int .u64 c.least, .int .u64 c.most, .int .i64 c.algo, .int .u64 c.first, .int .u64 c.grain, .int .u64 c.cap, .int .u64 c.burst, .int .u64 c.slowest, .int .i64 c.chal, .int .u64 c.every] 24 ∧ Blk X b_sB #[.int .u64 s0, .int .u64 s1, .int .u64 s2, .int .u64 s3, .int .u64 s4, .int .u64 s5, .int .u64 s6, .int .u64 e, .int .u64 k] 31 ∧ Blk X b_oB #[.int .u64 0, .int .u64 0, .int .u64 0, .int .u64 0, .int .u64 0, .int .u64 0, .int .u64 0, .int .u64 0, .int .u64 0] 31 ∧ Below w.heap.size w X := by
          subst hX
          exact ⟨Blk.new _ _ _, cB.alloc _, sB.alloc _, oB.alloc _, hL.alloc hL.size _⟩
        have hgt : b_oB < y.heap.size := lt_oB
        clear hX cB sB oB hL
        clear lt_cB lt_sB lt_oB sB_7 sB_8
        generalize y.heap.size = b_rB at *
        have rB := rB'
        have cB := cB'
        have sB := sB'
        have oB := oB'
        have hL := hL'
        clear rB' cB' sB' oB' hL'
        have lt_rB := rB.lt
        have lt_cB := cB.lt
        have lt_sB := sB.lt
        have lt_oB := oB.lt
        go_upto_region 3 with (first | (refine wpl_load_row (by rfl) 24 (.tmp 4) rfl w.heap.size rfl 24 #[.int .i64 c.bits, .int .u64 c.one, .int .i64 c.ring, .int .u64 c.limit, .int .i64 c.room, .int .u64 c.mss, .int .u64 c.initial, .int .u64 c.least, .int .u64 c.most, .int .i64 c.algo, .int .u64 c.first, .int .u64 c.grain, .int .u64 c.cap, .int .u64 c.burst, .int .u64 c.slowest, .int .i64 c.chal, .int .u64 c.every] (0, 0) _ cB Try.underlying24 rfl (by kernel_rfl) ?_) | (go_at_call 24; refine (CK _).mono ?_; rintro x' y0 ⟨rfl, L0⟩; replace rB := rB.below L0 lt_rB; replace cB := cB.below L0 lt_cB; replace sB := sB.below L0 lt_sB; replace oB := oB.below L0 lt_oB; replace hL := Base.next hL L0; replace lt_rB := rB.lt; replace lt_cB := cB.lt; replace lt_sB := sB.lt; replace lt_oB := oB.lt; have sB_0 : _ = some (Value.int .u64 s0) := sB.cell 0; have sB_1 : _ = some (Value.int .u64 s1) := sB.cell 1; have sB_2 : _ = some (Value.int .u64 s2) := sB.cell 2; have sB_3 : _ = some (Value.int .u64 s3) := sB.cell 3; have sB_4 : _ = some (Value.int .u64 s4) := sB.cell 4; have sB_5 : _ = some (Value.int .u64 s5) := sB.cell 5; have sB_6 : _ = some (Value.int .u64 s6) := sB.cell 6; have sB_7 : _ = some (Value.int .u64 e) := sB.cell 7; have sB_8 : _ = some (Value.int .u64 k) := sB.cell 8))
        go_wp2_with (refine wpl_store_row rfl 31 (.tmp 8) (.tmp 27) rfl oB #[.int .u64 s0, .int .u64 s1, .int .u64 s2, .int .u64 s3, .int .u64 s4, .int .u64 s5, .int .u64 s6, .int .u64 e, .int .u64 k] rfl rfl (by kernel_rfl) rfl (by simp [Value.oneCell']) ?_)
        refine bodyPost_ret (Round.results_rowR rfl _ _ b_oB 31 #[.int .u64 s0, .int .u64 s1, .int .u64 s2, .int .u64 s3, .int .u64 s4, .int .u64 s5, .int .u64 s6, .int .u64 e, .int .u64 k] _ rfl (oB.setRow _) Try.underlying31 rfl (by kernel_rfl)) rfl ?_
        exact ⟨rfl, below_setRow' hL (by omega)⟩
      · go_enter Try.func16, Try.ntmps16
        go_upto_region 1 with fail
        refine at_any ?_
        intro W hW
        obtain ⟨cB, sB, oB, hL⟩ : Blk W w.heap.size #[.int .i64 c.bits, .int .u64 c.one, .int .i64 c.ring, .int .u64 c.limit, .int .i64 c.room, .int .u64 c.mss, .int .u64 c.initial, .int .u64 c.least, .int .u64 c.most, .int .i64 c.algo, .int .u64 c.first, .int .u64 c.grain, .int .u64 c.cap, .int .u64 c.burst, .int .u64 c.slowest, .int .i64 c.chal, .int .u64 c.every] 24 ∧ Blk W (w.heap.size + 1) #[.int .u64 s0, .int .u64 s1, .int .u64 s2, .int .u64 s3, .int .u64 s4, .int .u64 s5, .int .u64 s6, .int .u64 e, .int .u64 k] 31 ∧ Blk W (w.heap.size + 1 + 1) #[.int .u64 0, .int .u64 0, .int .u64 0, .int .u64 0, .int .u64 0, .int .u64 0, .int .u64 0, .int .u64 0, .int .u64 0] 31 ∧ Below w.heap.size w W := by
          have h0 := Blk.new (w) #[.int .i64 c.bits, .int .u64 c.one, .int .i64 c.ring, .int .u64 c.limit, .int .i64 c.room, .int .u64 c.mss, .int .u64 c.initial, .int .u64 c.least, .int .u64 c.most, .int .i64 c.algo, .int .u64 c.first, .int .u64 c.grain, .int .u64 c.cap, .int .u64 c.burst, .int .u64 c.slowest, .int .i64 c.chal, .int .u64 c.every] 24
          have h1 := Blk.new (World.alloc (w) (.cells #[.int .i64 c.bits, .int .u64 c.one, .int .i64 c.ring, .int .u64 c.limit, .int .i64 c.room, .int .u64 c.mss, .int .u64 c.initial, .int .u64 c.least, .int .u64 c.most, .int .i64 c.algo, .int .u64 c.first, .int .u64 c.grain, .int .u64 c.cap, .int .u64 c.burst, .int .u64 c.slowest, .int .i64 c.chal, .int .u64 c.every] 24)) #[.int .u64 s0, .int .u64 s1, .int .u64 s2, .int .u64 s3, .int .u64 s4, .int .u64 s5, .int .u64 s6, .int .u64 e, .int .u64 k] 31
          have h2 := Blk.new (World.alloc (World.alloc (w) (.cells #[.int .i64 c.bits, .int .u64 c.one, .int .i64 c.ring, .int .u64 c.limit, .int .i64 c.room, .int .u64 c.mss, .int .u64 c.initial, .int .u64 c.least, .int .u64 c.most, .int .i64 c.algo, .int .u64 c.first, .int .u64 c.grain, .int .u64 c.cap, .int .u64 c.burst, .int .u64 c.slowest, .int .i64 c.chal, .int .u64 c.every] 24)) (.cells #[.int .u64 s0, .int .u64 s1, .int .u64 s2, .int .u64 s3, .int .u64 s4, .int .u64 s5, .int .u64 s6, .int .u64 e, .int .u64 k] 31)) #[.int .u64 0, .int .u64 0, .int .u64 0, .int .u64 0, .int .u64 0, .int .u64 0, .int .u64 0, .int .u64 0, .int .u64 0] 31
          simp only [World.size_alloc] at h1 h2
          subst hW
          exact ⟨((h0.alloc _).alloc _), (h1.alloc _), h2, ((((Below.refl _ _).alloc (Nat.le_refl _) _).alloc (by simp only [World.size_alloc]; omega) _).alloc (by simp only [World.size_alloc]; omega) _)⟩
        clear hW
        generalize hb_oB : w.heap.size + 1 + 1 = b_oB at *
        generalize hb_sB : w.heap.size + 1 = b_sB at *
        have lt_cB := cB.lt
        have lt_sB := sB.lt
        have lt_oB := oB.lt
        have sB_7 : _ = some (Value.int .u64 e) := sB.cell 7
        have sB_8 : _ = some (Value.int .u64 k) := sB.cell 8
        go_upto_region 2 with (go_at_call 30; refine (CB _).mono ?_; rintro x' y ⟨rfl, L1⟩; replace cB := cB.below L1 lt_cB; replace sB := sB.below L1 lt_sB; replace oB := oB.below L1 lt_oB; replace hL := Base.next hL L1; replace lt_cB := cB.lt; replace lt_sB := sB.lt; replace lt_oB := oB.lt)
        refine at_any ?_
        intro X hX
        obtain ⟨rB', cB', sB', oB', hL'⟩ : Blk X y.heap.size #[.int .u64 e2, .int .u64 k2] 29 ∧ Blk X w.heap.size #[.int .i64 c.bits, .int .u64 c.one, .int .i64 c.ring, .int .u64 c.limit, .int .i64 c.room, .int .u64 c.mss, .int .u64 c.initial, .int .u64 c.least, .int .u64 c.most, .int .i64 c.algo, .int .u64 c.first, .int .u64 c.grain, .int .u64 c.cap, .int .u64 c.burst, .int .u64 c.slowest, .int .i64 c.chal, .int .u64 c.every] 24 ∧ Blk X b_sB #[.int .u64 s0, .int .u64 s1, .int .u64 s2, .int .u64 s3, .int .u64 s4, .int .u64 s5, .int .u64 s6, .int .u64 e, .int .u64 k] 31 ∧ Blk X b_oB #[.int .u64 0, .int .u64 0, .int .u64 0, .int .u64 0, .int .u64 0, .int .u64 0, .int .u64 0, .int .u64 0, .int .u64 0] 31 ∧ Below w.heap.size w X := by
          subst hX
          exact ⟨Blk.new _ _ _, cB.alloc _, sB.alloc _, oB.alloc _, hL.alloc hL.size _⟩
        have hgt : b_oB < y.heap.size := lt_oB
        clear hX cB sB oB hL
        clear lt_cB lt_sB lt_oB sB_7 sB_8
        generalize y.heap.size = b_rB at *
        have rB := rB'
        have cB := cB'
        have sB := sB'
        have oB := oB'
        have hL := hL'
        clear rB' cB' sB' oB' hL'
        have lt_rB := rB.lt
        have lt_cB := cB.lt
        have lt_sB := sB.lt
        have lt_oB := oB.lt
        go_upto_region 3 with (first | (refine wpl_load_row (by rfl) 24 (.tmp 4) rfl w.heap.size rfl 24 #[.int .i64 c.bits, .int .u64 c.one, .int .i64 c.ring, .int .u64 c.limit, .int .i64 c.room, .int .u64 c.mss, .int .u64 c.initial, .int .u64 c.least, .int .u64 c.most, .int .i64 c.algo, .int .u64 c.first, .int .u64 c.grain, .int .u64 c.cap, .int .u64 c.burst, .int .u64 c.slowest, .int .i64 c.chal, .int .u64 c.every] (0, 0) _ cB Try.underlying24 rfl (by kernel_rfl) ?_) | (go_at_call 24; refine (CK _).mono ?_; rintro x' y0 ⟨rfl, L0⟩; replace rB := rB.below L0 lt_rB; replace cB := cB.below L0 lt_cB; replace sB := sB.below L0 lt_sB; replace oB := oB.below L0 lt_oB; replace hL := Base.next hL L0; replace lt_rB := rB.lt; replace lt_cB := cB.lt; replace lt_sB := sB.lt; replace lt_oB := oB.lt; have sB_0 : _ = some (Value.int .u64 s0) := sB.cell 0; have sB_1 : _ = some (Value.int .u64 s1) := sB.cell 1; have sB_2 : _ = some (Value.int .u64 s2) := sB.cell 2; have sB_3 : _ = some (Value.int .u64 s3) := sB.cell 3; have sB_4 : _ = some (Value.int .u64 s4) := sB.cell 4; have sB_5 : _ = some (Value.int .u64 s5) := sB.cell 5; have sB_6 : _ = some (Value.int .u64 s6) := sB.cell 6; have sB_7 : _ = some (Value.int .u64 e) := sB.cell 7; have sB_8 : _ = some (Value.int .u64 k) := sB.cell 8))
        go_wp2_with (refine wpl_store_row rfl 31 (.tmp 8) (.tmp 27) rfl oB #[.int .u64 s0, .int .u64 s1, .int .u64 s2, .int .u64 s3, .int .u64 s4, .int .u64 s5, .int .u64 s6, .int .u64 e, .int .u64 k] rfl rfl (by kernel_rfl) rfl (by simp [Value.oneCell']) ?_)
        refine bodyPost_ret (Round.results_rowR rfl _ _ b_oB 31 #[.int .u64 s0, .int .u64 s1, .int .u64 s2, .int .u64 s3, .int .u64 s4, .int .u64 s5, .int .u64 s6, .int .u64 e, .int .u64 k] _ rfl (oB.setRow _) Try.underlying31 rfl (by kernel_rfl)) rfl ?_
        exact ⟨rfl, below_setRow' hL (by omega)⟩
  | true =>
    rw [loss_yes hB]
    unfold lossB at hB
    obtain ⟨⟨s0, s1, s2, s3, s4, s5, s6⟩, ⟨e, k⟩⟩ := s
    simp only at CB hB CV
    unfold WinPost at CV
    unfold kc
    simp only
    generalize cutK c ⟨s0, s1, s2, s3, s4, s5, s6⟩ 16 17 = v at *
    obtain ⟨q0, q1, q2, q3, q4, q5, q6⟩ := v
    generalize beginP ⟨e, k⟩ pn next = d2 at *
    obtain ⟨e2, k2⟩ := d2
    unfold wc at CV
    simp only at CB CV ⊢
    simp only [Bool.and_eq_true, decide_eq_true_eq] at hB
    rw [hB.1] at CK
    rw [show decide (e ≤ pn) = true from decide_eq_true hB.2] at CB
    go_enter Try.func16, Try.ntmps16
    go_upto_region 1 with fail
    refine at_any ?_
    intro W hW
    obtain ⟨cB, sB, oB, hL⟩ : Blk W w.heap.size #[.int .i64 c.bits, .int .u64 c.one, .int .i64 c.ring, .int .u64 c.limit, .int .i64 c.room, .int .u64 c.mss, .int .u64 c.initial, .int .u64 c.least, .int .u64 c.most, .int .i64 c.algo, .int .u64 c.first, .int .u64 c.grain, .int .u64 c.cap, .int .u64 c.burst, .int .u64 c.slowest, .int .i64 c.chal, .int .u64 c.every] 24 ∧ Blk W (w.heap.size + 1) #[.int .u64 s0, .int .u64 s1, .int .u64 s2, .int .u64 s3, .int .u64 s4, .int .u64 s5, .int .u64 s6, .int .u64 e, .int .u64 k] 31 ∧ Blk W (w.heap.size + 1 + 1) #[.int .u64 0, .int .u64 0, .int .u64 0, .int .u64 0, .int .u64 0, .int .u64 0, .int .u64 0, .int .u64 0, .int .u64 0] 31 ∧ Below w.heap.size w W := by
      have h0 := Blk.new (w) #[.int .i64 c.bits, .int .u64 c.one, .int .i64 c.ring, .int .u64 c.limit, .int .i64 c.room, .int .u64 c.mss, .int .u64 c.initial, .int .u64 c.least, .int .u64 c.most, .int .i64 c.algo, .int .u64 c.first, .int .u64 c.grain, .int .u64 c.cap, .int .u64 c.burst, .int .u64 c.slowest, .int .i64 c.chal, .int .u64 c.every] 24
      have h1 := Blk.new (World.alloc (w) (.cells #[.int .i64 c.bits, .int .u64 c.one, .int .i64 c.ring, .int .u64 c.limit, .int .i64 c.room, .int .u64 c.mss, .int .u64 c.initial, .int .u64 c.least, .int .u64 c.most, .int .i64 c.algo, .int .u64 c.first, .int .u64 c.grain, .int .u64 c.cap, .int .u64 c.burst, .int .u64 c.slowest, .int .i64 c.chal, .int .u64 c.every] 24)) #[.int .u64 s0, .int .u64 s1, .int .u64 s2, .int .u64 s3, .int .u64 s4, .int .u64 s5, .int .u64 s6, .int .u64 e, .int .u64 k] 31
      have h2 := Blk.new (World.alloc (World.alloc (w) (.cells #[.int .i64 c.bits, .int .u64 c.one, .int .i64 c.ring, .int .u64 c.limit, .int .i64 c.room, .int .u64 c.mss, .int .u64 c.initial, .int .u64 c.least, .int .u64 c.most, .int .i64 c.algo, .int .u64 c.first, .int .u64 c.grain, .int .u64 c.cap, .int .u64 c.burst, .int .u64 c.slowest, .int .i64 c.chal, .int .u64 c.every] 24)) (.cells #[.int .u64 s0, .int .u64 s1, .int .u64 s2, .int .u64 s3, .int .u64 s4, .int .u64 s5, .int .u64 s6, .int .u64 e, .int .u64 k] 31)) #[.int .u64 0, .int .u64 0, .int .u64 0, .int .u64 0, .int .u64 0, .int .u64 0, .int .u64 0, .int .u64 0, .int .u64 0] 31
      simp only [World.size_alloc] at h1 h2
      subst hW
      exact ⟨((h0.alloc _).alloc _), (h1.alloc _), h2, ((((Below.refl _ _).alloc (Nat.le_refl _) _).alloc (by simp only [World.size_alloc]; omega) _).alloc (by simp only [World.size_alloc]; omega) _)⟩
    clear hW
    generalize hb_oB : w.heap.size + 1 + 1 = b_oB at *
    generalize hb_sB : w.heap.size + 1 = b_sB at *
    have lt_cB := cB.lt
    have lt_sB := sB.lt
    have lt_oB := oB.lt
    have sB_7 : _ = some (Value.int .u64 e) := sB.cell 7
    have sB_8 : _ = some (Value.int .u64 k) := sB.cell 8
    go_upto_region 2 with (go_at_call 30; refine (CB _).mono ?_; rintro x' y ⟨rfl, L1⟩; replace cB := cB.below L1 lt_cB; replace sB := sB.below L1 lt_sB; replace oB := oB.below L1 lt_oB; replace hL := Base.next hL L1; replace lt_cB := cB.lt; replace lt_sB := sB.lt; replace lt_oB := oB.lt)
    refine at_any ?_
    intro X hX
    obtain ⟨rB', cB', sB', oB', hL'⟩ : Blk X y.heap.size #[.int .u64 e2, .int .u64 k2] 29 ∧ Blk X w.heap.size #[.int .i64 c.bits, .int .u64 c.one, .int .i64 c.ring, .int .u64 c.limit, .int .i64 c.room, .int .u64 c.mss, .int .u64 c.initial, .int .u64 c.least, .int .u64 c.most, .int .i64 c.algo, .int .u64 c.first, .int .u64 c.grain, .int .u64 c.cap, .int .u64 c.burst, .int .u64 c.slowest, .int .i64 c.chal, .int .u64 c.every] 24 ∧ Blk X b_sB #[.int .u64 s0, .int .u64 s1, .int .u64 s2, .int .u64 s3, .int .u64 s4, .int .u64 s5, .int .u64 s6, .int .u64 e, .int .u64 k] 31 ∧ Blk X b_oB #[.int .u64 0, .int .u64 0, .int .u64 0, .int .u64 0, .int .u64 0, .int .u64 0, .int .u64 0, .int .u64 0, .int .u64 0] 31 ∧ Below w.heap.size w X := by
      subst hX
      exact ⟨Blk.new _ _ _, cB.alloc _, sB.alloc _, oB.alloc _, hL.alloc hL.size _⟩
    have hgt : b_oB < y.heap.size := lt_oB
    clear hX cB sB oB hL
    clear lt_cB lt_sB lt_oB sB_7 sB_8
    generalize y.heap.size = b_rB at *
    have rB := rB'
    have cB := cB'
    have sB := sB'
    have oB := oB'
    have hL := hL'
    clear rB' cB' sB' oB' hL'
    have lt_rB := rB.lt
    have lt_cB := cB.lt
    have lt_sB := sB.lt
    have lt_oB := oB.lt
    go_upto_region 4 with (first | (refine wpl_load_row (by rfl) 24 (.tmp 4) rfl w.heap.size rfl 24 #[.int .i64 c.bits, .int .u64 c.one, .int .i64 c.ring, .int .u64 c.limit, .int .i64 c.room, .int .u64 c.mss, .int .u64 c.initial, .int .u64 c.least, .int .u64 c.most, .int .i64 c.algo, .int .u64 c.first, .int .u64 c.grain, .int .u64 c.cap, .int .u64 c.burst, .int .u64 c.slowest, .int .i64 c.chal, .int .u64 c.every] (0, 0) _ cB Try.underlying24 rfl (by kernel_rfl) ?_) | (go_at_call 24; refine (CK _).mono ?_; rintro x' y0 ⟨rfl, L0⟩; replace rB := rB.below L0 lt_rB; replace cB := cB.below L0 lt_cB; replace sB := sB.below L0 lt_sB; replace oB := oB.below L0 lt_oB; replace hL := Base.next hL L0; replace lt_rB := rB.lt; replace lt_cB := cB.lt; replace lt_sB := sB.lt; replace lt_oB := oB.lt))
    refine at_any ?_
    intro Y hY
    obtain ⟨rB', cB', sB', oB', hL'⟩ : Blk Y b_rB #[.int .u64 e2, .int .u64 k2] 29 ∧ Blk Y w.heap.size #[.int .i64 c.bits, .int .u64 c.one, .int .i64 c.ring, .int .u64 c.limit, .int .i64 c.room, .int .u64 c.mss, .int .u64 c.initial, .int .u64 c.least, .int .u64 c.most, .int .i64 c.algo, .int .u64 c.first, .int .u64 c.grain, .int .u64 c.cap, .int .u64 c.burst, .int .u64 c.slowest, .int .i64 c.chal, .int .u64 c.every] 24 ∧ Blk Y b_sB #[.int .u64 s0, .int .u64 s1, .int .u64 s2, .int .u64 s3, .int .u64 s4, .int .u64 s5, .int .u64 s6, .int .u64 e, .int .u64 k] 31 ∧ Blk Y b_oB #[.int .u64 0, .int .u64 0, .int .u64 0, .int .u64 0, .int .u64 0, .int .u64 0, .int .u64 0, .int .u64 0, .int .u64 0] 31 ∧ Below w.heap.size w Y := by
      subst hY
      exact ⟨rB, cB, sB, oB, hL⟩
    clear hY rB cB sB oB hL
    clear lt_rB lt_cB lt_sB lt_oB
    have f0 := fun p : In (Lt Y) => inCell p (o := 0) (v := .int .i64 c.bits) (cB'.cell 0)
    have f1 := fun p : In (Lt Y) => inCell p (o := 1) (v := .int .u64 c.one) (cB'.cell 1)
    have f2 := fun p : In (Lt Y) => inCell p (o := 2) (v := .int .i64 c.ring) (cB'.cell 2)
    have f3 := fun p : In (Lt Y) => inCell p (o := 3) (v := .int .u64 c.limit) (cB'.cell 3)
    have f4 := fun p : In (Lt Y) => inCell p (o := 4) (v := .int .i64 c.room) (cB'.cell 4)
    have f5 := fun p : In (Lt Y) => inCell p (o := 5) (v := .int .u64 c.mss) (cB'.cell 5)
    have f6 := fun p : In (Lt Y) => inCell p (o := 6) (v := .int .u64 c.initial) (cB'.cell 6)
    have f7 := fun p : In (Lt Y) => inCell p (o := 7) (v := .int .u64 c.least) (cB'.cell 7)
    have f8 := fun p : In (Lt Y) => inCell p (o := 8) (v := .int .u64 c.most) (cB'.cell 8)
    have f9 := fun p : In (Lt Y) => inCell p (o := 9) (v := .int .i64 c.algo) (cB'.cell 9)
    have f10 := fun p : In (Lt Y) => inCell p (o := 10) (v := .int .u64 c.first) (cB'.cell 10)
    have f11 := fun p : In (Lt Y) => inCell p (o := 11) (v := .int .u64 c.grain) (cB'.cell 11)
    have f12 := fun p : In (Lt Y) => inCell p (o := 12) (v := .int .u64 c.cap) (cB'.cell 12)
    have f13 := fun p : In (Lt Y) => inCell p (o := 13) (v := .int .u64 c.burst) (cB'.cell 13)
    have f14 := fun p : In (Lt Y) => inCell p (o := 14) (v := .int .u64 c.slowest) (cB'.cell 14)
    have f15 := fun p : In (Lt Y) => inCell p (o := 15) (v := .int .i64 c.chal) (cB'.cell 15)
    have f16 := fun p : In (Lt Y) => inCell p (o := 16) (v := .int .u64 c.every) (cB'.cell 16)
    have g0 := fun p : In (Lt Y) => inCell p (o := 0) (v := .int .u64 s0) (sB'.cell 0)
    have g1 := fun p : In (Lt Y) => inCell p (o := 1) (v := .int .u64 s1) (sB'.cell 1)
    have g2 := fun p : In (Lt Y) => inCell p (o := 2) (v := .int .u64 s2) (sB'.cell 2)
    have g3 := fun p : In (Lt Y) => inCell p (o := 3) (v := .int .u64 s3) (sB'.cell 3)
    have g4 := fun p : In (Lt Y) => inCell p (o := 4) (v := .int .u64 s4) (sB'.cell 4)
    have g5 := fun p : In (Lt Y) => inCell p (o := 5) (v := .int .u64 s5) (sB'.cell 5)
    have g6 := fun p : In (Lt Y) => inCell p (o := 6) (v := .int .u64 s6) (sB'.cell 6)
    have r0 := fun p : In (Lt Y) => inCell p (o := 0) (v := .int .u64 e2) (rB'.cell 0)
    have r1 := fun p : In (Lt Y) => inCell p (o := 1) (v := .int .u64 k2) (rB'.cell 1)
    refine wp_region_rest (C := fun w' => ∃ p : In (Lt Y), w' = p.w) 6 2 (by kernel_rfl) (by kernel_rfl) (by kernel_rfl) (by kernel_rfl) (by kernel_rfl) ⟨⟨Y.drew, Lt.drew Y⟩, rfl⟩ ?_
    simp only [List.toList_toArray, List.take_succ_cons, List.take_zero]
    repeat (go_big_quiet_step (first | (go_at_call 31; refine in_below (v := .agg #[.int .u64 q0, .int .u64 q1, .int .u64 q2, .int .u64 q3, .int .u64 q4, .int .u64 q5, .int .u64 q6]) ?_; exact CV _)))
    refine wpQuiet_nil ?_
    rintro w5 ⟨⟨_, hw5⟩, rfl⟩
    have hw5 : Below Y.heap.size Y w5 := hw5
    clear f0 f1 f2 f3 f4 f5 f6 f7 f8 f9 f10 f11 f12 f13 f14 f15 f16 g0 g1 g2 g3 g4 g5 g6 r0 r1 CV
    have oB5 := oB'.below hw5 oB'.lt
    have hL5 := Base.next hL' hw5
    refine wpAny_of_held (S := fun _ => True) _ _ _ _ ?_
    refine held_st (i := 6) rfl (by kernel_rfl) (by kernel_rfl) (st_row 31 (.tmp 8) (.tmp 33) rfl (g := b_oB) (cells := #[.int .u64 q0, .int .u64 q1, .int .u64 q2, .int .u64 q3, .int .u64 q4, .int .u64 q5, .int .u64 q6, .int .u64 e2, .int .u64 k2]) (by kernel_rfl) (by kernel_rfl) oB5 (by kernel_rfl) rfl (by simp [Value.oneCell'])) trivial ?_
    refine held_one (i := 7) (v := .bool true) (w' := w5.setRow b_oB #[.int .u64 q0, .int .u64 q1, .int .u64 q2, .int .u64 q3, .int .u64 q4, .int .u64 q5, .int .u64 q6, .int .u64 e2, .int .u64 k2]) rfl (by kernel_rfl) (by kernel_rfl) (by kernel_rfl) trivial ?_
    refine held_done (by kernel_rfl) ?_
    have oB6 : Blk (w5.setRow b_oB #[.int .u64 q0, .int .u64 q1, .int .u64 q2, .int .u64 q3, .int .u64 q4, .int .u64 q5, .int .u64 q6, .int .u64 e2, .int .u64 k2]) b_oB #[.int .u64 q0, .int .u64 q1, .int .u64 q2, .int .u64 q3, .int .u64 q4, .int .u64 q5, .int .u64 q6, .int .u64 e2, .int .u64 k2] 31 := oB5.setRow _
    have hL6 : Below w.heap.size w (w5.setRow b_oB #[.int .u64 q0, .int .u64 q1, .int .u64 q2, .int .u64 q3, .int .u64 q4, .int .u64 q5, .int .u64 q6, .int .u64 e2, .int .u64 k2]) := below_setRow' hL5 (by omega)
    generalize w5.setRow b_oB #[.int .u64 q0, .int .u64 q1, .int .u64 q2, .int .u64 q3, .int .u64 q4, .int .u64 q5, .int .u64 q6, .int .u64 e2, .int .u64 k2] = Z at *
    go_wp2
    refine bodyPost_ret (Round.results_rowR rfl _ _ b_oB 31 #[.int .u64 q0, .int .u64 q1, .int .u64 q2, .int .u64 q3, .int .u64 q4, .int .u64 q5, .int .u64 q6, .int .u64 e2, .int .u64 k2] _ rfl oB6 Try.underlying31 rfl (by kernel_rfl)) rfl ?_
    exact ⟨rfl, hL6⟩
end Go.Proofs.Ytnnpklnhdfpnjaa.Control
