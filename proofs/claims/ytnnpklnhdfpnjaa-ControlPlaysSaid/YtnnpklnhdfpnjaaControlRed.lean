/-
  The program's controls by contract: Collapse and the reduction.
-/
import Derived.Test.YtnnpklnhdfpnjaaControlCut
set_option linter.unusedSimpArgs false
set_option linter.unusedVariables false
namespace Go.Proofs.Ytnnpklnhdfpnjaa.Control
set_option linter.unusedVariables false
set_option maxRecDepth 20000
open Go.ChangeShapes Go.WideShapes Go.ChangeAt Go.RowKit
open Go.Proofs.Ytnnpklnhdfpnjaa.Base Go.Proofs.Ytnnpklnhdfpnjaa.RenoPlain Go.Proofs.Ytnnpklnhdfpnjaa.CubicPlain Go.Proofs.Ytnnpklnhdfpnjaa.RoundPlain Go.Proofs.Ytnnpklnhdfpnjaa.ConfPlain Go.Proofs.Ytnnpklnhdfpnjaa.ControlPlain Go.Proofs.Ytnnpklnhdfpnjaa.Conf Go.Proofs.Ytnnpklnhdfpnjaa.Reno Go.Proofs.Ytnnpklnhdfpnjaa.Cubic Go.Proofs.Ytnnpklnhdfpnjaa.Hop

set_option maxHeartbeats 4000000 in
theorem fall_any (c : C) (hc : CFit c) (s : Kc) (hs : KFit s) (w : World) :
    Calls Try.prog 17 #[.agg #[.int .i64 c.bits, .int .u64 c.one, .int .i64 c.ring, .int .u64 c.limit, .int .i64 c.room, .int .u64 c.mss, .int .u64 c.initial, .int .u64 c.least, .int .u64 c.most, .int .i64 c.algo, .int .u64 c.first, .int .u64 c.grain, .int .u64 c.cap, .int .u64 c.burst, .int .u64 c.slowest, .int .i64 c.chal, .int .u64 c.every], .agg (kc s)] w (CcPost w (fallK c s)) := by
  have CK := fun V => may_any c V hc.rng
  unfold CcPost fallK
  by_cases h0 : pos (flags c) = 0
  · rw [← cutG_lost (algo_of h0) s.w]
    rw [show (pos (flags c) == 0) = true by simpa using h0] at CK
    rw [if_pos h0]
    clear h0
    have CS := fun V => lost_any c V
    have CV := fun V => cutk_any c s.w hs.w (shL c).1 (shL c).2 (shL_fit c).1 (shL_fit c).2 V
    generalize (shL c).1 = num at *
    generalize (shL c).2 = den at *
    generalize cutG c s.w num den = v at *
    obtain ⟨⟨s0, s1, s2, s3, s4, s5, s6⟩, ⟨e, k⟩⟩ := s
    obtain ⟨q0, q1, q2, q3, q4, q5, q6⟩ := v
    unfold WinPost wc at CV
    unfold kc
    simp only at CV ⊢
    go_enter Try.func17, Try.ntmps17
    go_upto_region 1 with fail
    refine at_any ?_
    intro W hW
    obtain ⟨cB, sB, oB, hL⟩ : Blk W w.heap.size #[.int .i64 c.bits, .int .u64 c.one, .int .i64 c.ring, .int .u64 c.limit, .int .i64 c.room, .int .u64 c.mss, .int .u64 c.initial, .int .u64 c.least, .int .u64 c.most, .int .i64 c.algo, .int .u64 c.first, .int .u64 c.grain, .int .u64 c.cap, .int .u64 c.burst, .int .u64 c.slowest, .int .i64 c.chal, .int .u64 c.every] 24 ∧ Blk W (w.heap.size + 1) #[.int .u64 s0, .int .u64 s1, .int .u64 s2, .int .u64 s3, .int .u64 s4, .int .u64 s5, .int .u64 s6, .int .u64 e, .int .u64 k] 31 ∧ Blk W (w.heap.size + 1 + 1) #[.int .u64 0, .int .u64 0, .int .u64 0, .int .u64 0, .int .u64 0, .int .u64 0, .int .u64 0, .int .u64 0, .int .u64 0] 31 ∧ Below w.heap.size w W := by
      have h0 := Blk.new (w) #[.int .i64 c.bits, .int .u64 c.one, .int .i64 c.ring, .int .u64 c.limit, .int .i64 c.room, .int .u64 c.mss, .int .u64 c.initial, .int .u64 c.least, .int .u64 c.most, .int .i64 c.algo, .int .u64 c.first, .int .u64 c.grain, .int .u64 c.cap, .int .u64 c.burst, .int .u64 c.slowest, .int .i64 c.chal, .int .u64 c.every] 24
      have h1 := Blk.new (World.alloc (w) (.cells #[.int .i64 c.bits, .int .u64 c.one, .int .i64 c.ring, .int .u64 c.limit, .int .i64 c.room, .int .u64 c.mss, .int .u64 c.initial, .int .u64 c.least, .int .u64 c.most, .int .i64 c.algo, .int .u64 c.first, .int .u64 c.grain, .int .u64 c.cap, .int .u64 c.burst, .int .u64 c.slowest, .int .i64 c.chal, .int .u64 c.every] 24)) #[.int .u64 s0, .int .u64 s1, .int .u64 s2, .int .u64 s3, .int .u64 s4, .int .u64 s5, .int .u64 s6, .int .u64 e, .int .u64 k] 31
      have h2 := Blk.new (World.alloc (World.alloc (w) (.cells #[.int .i64 c.bits, .int .u64 c.one, .int .i64 c.ring, .int .u64 c.limit, .int .i64 c.room, .int .u64 c.mss, .int .u64 c.initial, .int .u64 c.least, .int .u64 c.most, .int .i64 c.algo, .int .u64 c.first, .int .u64 c.grain, .int .u64 c.cap, .int .u64 c.burst, .int .u64 c.slowest, .int .i64 c.chal, .int .u64 c.every] 24)) (.cells #[.int .u64 s0, .int .u64 s1, .int .u64 s2, .int .u64 s3, .int .u64 s4, .int .u64 s5, .int .u64 s6, .int .u64 e, .int .u64 k] 31)) #[.int .u64 0, .int .u64 0, .int .u64 0, .int .u64 0, .int .u64 0, .int .u64 0, .int .u64 0, .int .u64 0, .int .u64 0] 31
      simp only [World.size_alloc] at h1 h2
      subst hW
      exact ⟨((h0.alloc _).alloc _), (h1.alloc _), h2, ((((Below.refl _ _).alloc (Nat.le_refl _) _).alloc (by simp only [World.size_alloc]; omega) _).alloc (by simp only [World.size_alloc]; omega) _)⟩
    clear hW
    generalize hb_oB : w.heap.size + 1 + 1 = b_oB at *
    generalize hb_sB : w.heap.size + 1 = b_sB at *
    have lt_cB := cB.lt
    have lt_sB := sB.lt
    have lt_oB := oB.lt
    go_upto_region 3 with (first | (refine wpl_load_row (by rfl) 24 (.tmp 2) rfl w.heap.size rfl 24 #[.int .i64 c.bits, .int .u64 c.one, .int .i64 c.ring, .int .u64 c.limit, .int .i64 c.room, .int .u64 c.mss, .int .u64 c.initial, .int .u64 c.least, .int .u64 c.most, .int .i64 c.algo, .int .u64 c.first, .int .u64 c.grain, .int .u64 c.cap, .int .u64 c.burst, .int .u64 c.slowest, .int .i64 c.chal, .int .u64 c.every] (0, 0) _ cB Try.underlying24 rfl (by kernel_rfl) ?_) | (go_at_call 20; refine (CK _).mono ?_; rintro x' y0 ⟨rfl, L0⟩; replace cB := cB.below L0 lt_cB; replace sB := sB.below L0 lt_sB; replace oB := oB.below L0 lt_oB; replace hL := Base.next hL L0; replace lt_cB := cB.lt; replace lt_sB := sB.lt; replace lt_oB := oB.lt))
    refine at_any ?_
    intro Y hY
    obtain ⟨cB', sB', oB', hL'⟩ : Blk Y w.heap.size #[.int .i64 c.bits, .int .u64 c.one, .int .i64 c.ring, .int .u64 c.limit, .int .i64 c.room, .int .u64 c.mss, .int .u64 c.initial, .int .u64 c.least, .int .u64 c.most, .int .i64 c.algo, .int .u64 c.first, .int .u64 c.grain, .int .u64 c.cap, .int .u64 c.burst, .int .u64 c.slowest, .int .i64 c.chal, .int .u64 c.every] 24 ∧ Blk Y b_sB #[.int .u64 s0, .int .u64 s1, .int .u64 s2, .int .u64 s3, .int .u64 s4, .int .u64 s5, .int .u64 s6, .int .u64 e, .int .u64 k] 31 ∧ Blk Y b_oB #[.int .u64 0, .int .u64 0, .int .u64 0, .int .u64 0, .int .u64 0, .int .u64 0, .int .u64 0, .int .u64 0, .int .u64 0] 31 ∧ Below w.heap.size w Y := by
      subst hY
      exact ⟨cB, sB, oB, hL⟩
    clear hY cB sB oB hL
    clear lt_cB lt_sB lt_oB
    have f0 := fun p : In (Lt Y) => inCell p (o := 0) (v := .int .i64 c.bits) (cB'.cell 0)
    have f1 := fun p : In (Lt Y) => inCell p (o := 1) (v := .int .u64 c.one) (cB'.cell 1)
    have f2 := fun p : In (Lt Y) => inCell p (o := 2) (v := .int .i64 c.ring) (cB'.cell 2)
    have f3 := fun p : In (Lt Y) => inCell p (o := 3) (v := .int .u64 c.limit) (cB'.cell 3)
    have f4 := fun p : In (Lt Y) => inCell p (o := 4) (v := .int .i64 c.room) (cB'.cell 4)
    have f5 := fun p : In (Lt Y) => inCell p (o := 5) (v := .int .u64 c.mss) (cB'.cell 5)
    have f6 := fun p : In (Lt Y) => inCell p (o := 6) (v := .int .u64 c.initial) (cB'.cell 6)
    have f7 := fun p : In (Lt Y) => inCell p (o := 7) (v := .int .u64 c.least) (cB'.cell 7)
    have f8 := fun p : In (Lt Y) => inCell p (o := 8) (v := .int .u64 c.most) (cB'.cell 8)
    have f9 := fun p : In (Lt Y) => inCell p (o := 9) (v := .int .i64 c.algo) (cB'.cell 9)
    have f10 := fun p : In (Lt Y) => inCell p (o := 10) (v := .int .u64 c.first) (cB'.cell 10)
    have f11 := fun p : In (Lt Y) => inCell p (o := 11) (v := .int .u64 c.grain) (cB'.cell 11)
    have f12 := fun p : In (Lt Y) => inCell p (o := 12) (v := .int .u64 c.cap) (cB'.cell 12)
    have f13 := fun p : In (Lt Y) => inCell p (o := 13) (v := .int .u64 c.burst) (cB'.cell 13)
    have f14 := fun p : In (Lt Y) => inCell p (o := 14) (v := .int .u64 c.slowest) (cB'.cell 14)
    have f15 := fun p : In (Lt Y) => inCell p (o := 15) (v := .int .i64 c.chal) (cB'.cell 15)
    have f16 := fun p : In (Lt Y) => inCell p (o := 16) (v := .int .u64 c.every) (cB'.cell 16)
    have g0 := fun p : In (Lt Y) => inCell p (o := 0) (v := .int .u64 s0) (sB'.cell 0)
    have g1 := fun p : In (Lt Y) => inCell p (o := 1) (v := .int .u64 s1) (sB'.cell 1)
    have g2 := fun p : In (Lt Y) => inCell p (o := 2) (v := .int .u64 s2) (sB'.cell 2)
    have g3 := fun p : In (Lt Y) => inCell p (o := 3) (v := .int .u64 s3) (sB'.cell 3)
    have g4 := fun p : In (Lt Y) => inCell p (o := 4) (v := .int .u64 s4) (sB'.cell 4)
    have g5 := fun p : In (Lt Y) => inCell p (o := 5) (v := .int .u64 s5) (sB'.cell 5)
    have g6 := fun p : In (Lt Y) => inCell p (o := 6) (v := .int .u64 s6) (sB'.cell 6)
    refine wp_region_rest (C := fun w' => ∃ p : In (Lt Y), w' = p.w) 7 1 (by kernel_rfl) (by kernel_rfl) (by kernel_rfl) (by kernel_rfl) (by kernel_rfl) ⟨⟨Y.drew, Lt.drew Y⟩, rfl⟩ ?_
    simp only [List.toList_toArray, List.take_succ_cons, List.take_zero]
    repeat (go_big_quiet_step (first | (go_at_call 29; refine in_below (v := .agg #[.int .u64 num, .int .u64 den]) ?_; exact CS _) | (go_at_call 33; refine in_below (v := .agg #[.int .u64 q0, .int .u64 q1, .int .u64 q2, .int .u64 q3, .int .u64 q4, .int .u64 q5, .int .u64 q6]) ?_; exact CV _)))
    refine wpQuiet_nil ?_
    rintro w5 ⟨⟨_, hw5⟩, rfl⟩
    have hw5 : Below Y.heap.size Y w5 := hw5
    clear f0 f1 f2 f3 f4 f5 f6 f7 f8 f9 f10 f11 f12 f13 f14 f15 f16 g0 g1 g2 g3 g4 g5 g6 CS CV
    refine wpAny_of_held (S := fun _ => True) _ _ _ _ ?_
    have sB5 := sB'.below hw5 sB'.lt
    have cB5 := cB'.below hw5 cB'.lt
    have oB5 := oB'.below hw5 oB'.lt
    have hL5 := Base.next hL' hw5
    refine held_st (i := 7) rfl (by kernel_rfl) (by kernel_rfl) (st_midc 27 (.tmp 15) (.tmp 14) rfl (g := b_sB) (i := 0) (cells := #[.int .u64 q0, .int .u64 q1, .int .u64 q2, .int .u64 q3, .int .u64 q4, .int .u64 q5, .int .u64 q6]) (by kernel_rfl) (by kernel_rfl) (sB5.there 0 7 (by simp)) (by kernel_rfl) (by simp [Value.oneCell'])) trivial ?_
    refine held_done (by kernel_rfl) ?_
    have cB : Blk (w5.setCells b_sB 0 #[.int .u64 q0, .int .u64 q1, .int .u64 q2, .int .u64 q3, .int .u64 q4, .int .u64 q5, .int .u64 q6].toList) w.heap.size #[.int .i64 c.bits, .int .u64 c.one, .int .i64 c.ring, .int .u64 c.limit, .int .i64 c.room, .int .u64 c.mss, .int .u64 c.initial, .int .u64 c.least, .int .u64 c.most, .int .i64 c.algo, .int .u64 c.first, .int .u64 c.grain, .int .u64 c.cap, .int .u64 c.burst, .int .u64 c.slowest, .int .i64 c.chal, .int .u64 c.every] 24 := Blk.otherMid (show w.heap.size ≠ b_sB by omega) cB5 _ _
    have sB : Blk (w5.setCells b_sB 0 #[.int .u64 q0, .int .u64 q1, .int .u64 q2, .int .u64 q3, .int .u64 q4, .int .u64 q5, .int .u64 q6].toList) b_sB #[.int .u64 q0, .int .u64 q1, .int .u64 q2, .int .u64 q3, .int .u64 q4, .int .u64 q5, .int .u64 q6, .int .u64 e, .int .u64 k] 31 := sB5.mid79
    have oB : Blk (w5.setCells b_sB 0 #[.int .u64 q0, .int .u64 q1, .int .u64 q2, .int .u64 q3, .int .u64 q4, .int .u64 q5, .int .u64 q6].toList) b_oB #[.int .u64 0, .int .u64 0, .int .u64 0, .int .u64 0, .int .u64 0, .int .u64 0, .int .u64 0, .int .u64 0, .int .u64 0] 31 := Blk.otherMid (show b_oB ≠ b_sB by omega) oB5 _ _
    have hL : Below w.heap.size w (w5.setCells b_sB 0 #[.int .u64 q0, .int .u64 q1, .int .u64 q2, .int .u64 q3, .int .u64 q4, .int .u64 q5, .int .u64 q6].toList) := below_setCells (show w.heap.size ≤ b_sB by omega) hL5 _ _
    clear hw5 cB' sB' oB' hL' cB5 sB5 oB5 hL5
    generalize w5.setCells b_sB 0 #[.int .u64 q0, .int .u64 q1, .int .u64 q2, .int .u64 q3, .int .u64 q4, .int .u64 q5, .int .u64 q6].toList = W6 at *
    have lt_cB := cB.lt
    have cB_7 : _ = some (Value.int .u64 c.least) := cB.cell 7
    have lt_sB := sB.lt
    have sB_0 : _ = some (Value.int .u64 q0) := sB.cell 0
    have sB_z0 := sB.free 0
    have lt_oB := oB.lt
    go_upto_region 5 with fail
    refine at_any ?_
    intro X hX
    obtain ⟨cB', sB', oB', hL'⟩ : Blk X w.heap.size #[.int .i64 c.bits, .int .u64 c.one, .int .i64 c.ring, .int .u64 c.limit, .int .i64 c.room, .int .u64 c.mss, .int .u64 c.initial, .int .u64 c.least, .int .u64 c.most, .int .i64 c.algo, .int .u64 c.first, .int .u64 c.grain, .int .u64 c.cap, .int .u64 c.burst, .int .u64 c.slowest, .int .i64 c.chal, .int .u64 c.every] 24 ∧ Blk X b_sB #[.int .u64 c.least, .int .u64 q1, .int .u64 q2, .int .u64 q3, .int .u64 q4, .int .u64 q5, .int .u64 q6, .int .u64 e, .int .u64 k] 31 ∧ Blk X b_oB #[.int .u64 0, .int .u64 0, .int .u64 0, .int .u64 0, .int .u64 0, .int .u64 0, .int .u64 0, .int .u64 0, .int .u64 0] 31 ∧ Below w.heap.size w X := by
      subst hX
      exact ⟨cB.other (show w.heap.size ≠ b_sB by omega) _, sB.set 0 (.int .u64 c.least), oB.other (show b_oB ≠ b_sB by omega) _, hL.setCell (show w.heap.size ≤ b_sB by omega) _⟩
    clear hX cB sB oB hL
    clear lt_cB cB_7 lt_sB sB_0 sB_z0 lt_oB
    have cB := cB'
    have sB := sB'
    have oB := oB'
    have hL := hL'
    clear cB' sB' oB' hL'
    have lt_cB := cB.lt
    have lt_sB := sB.lt
    have sB_0 : _ = some (Value.int .u64 c.least) := sB.cell 0
    have sB_1 : _ = some (Value.int .u64 q1) := sB.cell 1
    have sB_2 : _ = some (Value.int .u64 q2) := sB.cell 2
    have sB_3 : _ = some (Value.int .u64 q3) := sB.cell 3
    have sB_4 : _ = some (Value.int .u64 q4) := sB.cell 4
    have sB_5 : _ = some (Value.int .u64 q5) := sB.cell 5
    have sB_6 : _ = some (Value.int .u64 q6) := sB.cell 6
    have sB_7 : _ = some (Value.int .u64 e) := sB.cell 7
    have sB_8 : _ = some (Value.int .u64 k) := sB.cell 8
    have lt_oB := oB.lt
    go_wp2_with (refine wpl_store_row rfl 31 (.tmp 4) (.tmp 20) rfl oB #[.int .u64 c.least, .int .u64 q1, .int .u64 q2, .int .u64 q3, .int .u64 q4, .int .u64 q5, .int .u64 q6, .int .u64 e, .int .u64 k] rfl rfl (by kernel_rfl) rfl (by simp [Value.oneCell']) ?_)
    refine bodyPost_ret (results_cell_row rfl _ _ b_oB 31 #[.int .u64 c.least, .int .u64 q1, .int .u64 q2, .int .u64 q3, .int .u64 q4, .int .u64 q5, .int .u64 q6, .int .u64 e, .int .u64 k] (0, 0) _ rfl (oB.setRow _) Try.underlying31 rfl (by kernel_rfl)) rfl ?_
    exact ⟨rfl, below_setRow' hL (by omega)⟩
  · rw [show (pos (flags c) == 0) = false by simpa using h0] at CK
    rw [if_neg h0]
    clear h0
    obtain ⟨⟨s0, s1, s2, s3, s4, s5, s6⟩, ⟨e, k⟩⟩ := s
    unfold kc
    simp only
    go_enter Try.func17, Try.ntmps17
    go_upto_region 1 with fail
    refine at_any ?_
    intro W hW
    obtain ⟨cB, sB, oB, hL⟩ : Blk W w.heap.size #[.int .i64 c.bits, .int .u64 c.one, .int .i64 c.ring, .int .u64 c.limit, .int .i64 c.room, .int .u64 c.mss, .int .u64 c.initial, .int .u64 c.least, .int .u64 c.most, .int .i64 c.algo, .int .u64 c.first, .int .u64 c.grain, .int .u64 c.cap, .int .u64 c.burst, .int .u64 c.slowest, .int .i64 c.chal, .int .u64 c.every] 24 ∧ Blk W (w.heap.size + 1) #[.int .u64 s0, .int .u64 s1, .int .u64 s2, .int .u64 s3, .int .u64 s4, .int .u64 s5, .int .u64 s6, .int .u64 e, .int .u64 k] 31 ∧ Blk W (w.heap.size + 1 + 1) #[.int .u64 0, .int .u64 0, .int .u64 0, .int .u64 0, .int .u64 0, .int .u64 0, .int .u64 0, .int .u64 0, .int .u64 0] 31 ∧ Below w.heap.size w W := by
      have h0 := Blk.new (w) #[.int .i64 c.bits, .int .u64 c.one, .int .i64 c.ring, .int .u64 c.limit, .int .i64 c.room, .int .u64 c.mss, .int .u64 c.initial, .int .u64 c.least, .int .u64 c.most, .int .i64 c.algo, .int .u64 c.first, .int .u64 c.grain, .int .u64 c.cap, .int .u64 c.burst, .int .u64 c.slowest, .int .i64 c.chal, .int .u64 c.every] 24
      have h1 := Blk.new (World.alloc (w) (.cells #[.int .i64 c.bits, .int .u64 c.one, .int .i64 c.ring, .int .u64 c.limit, .int .i64 c.room, .int .u64 c.mss, .int .u64 c.initial, .int .u64 c.least, .int .u64 c.most, .int .i64 c.algo, .int .u64 c.first, .int .u64 c.grain, .int .u64 c.cap, .int .u64 c.burst, .int .u64 c.slowest, .int .i64 c.chal, .int .u64 c.every] 24)) #[.int .u64 s0, .int .u64 s1, .int .u64 s2, .int .u64 s3, .int .u64 s4, .int .u64 s5, .int .u64 s6, .int .u64 e, .int .u64 k] 31
      have h2 := Blk.new (World.alloc (World.alloc (w) (.cells #[.int .i64 c.bits, .int .u64 c.one, .int .i64 c.ring, .int .u64 c.limit, .int .i64 c.room, .int .u64 c.mss, .int .u64 c.initial, .int .u64 c.least, .int .u64 c.most, .int .i64 c.algo, .int .u64 c.first, .int .u64 c.grain, .int .u64 c.cap, .int .u64 c.burst, .int .u64 c.slowest, .int .i64 c.chal, .int .u64 c.every] 24)) (.cells #[.int .u64 s0, .int .u64 s1, .int .u64 s2, .int .u64 s3, .int .u64 s4, .int .u64 s5, .int .u64 s6, .int .u64 e, .int .u64 k] 31)) #[.int .u64 0, .int .u64 0, .int .u64 0, .int .u64 0, .int .u64 0, .int .u64 0, .int .u64 0, .int .u64 0, .int .u64 0] 31
      simp only [World.size_alloc] at h1 h2
      subst hW
      exact ⟨((h0.alloc _).alloc _), (h1.alloc _), h2, ((((Below.refl _ _).alloc (Nat.le_refl _) _).alloc (by simp only [World.size_alloc]; omega) _).alloc (by simp only [World.size_alloc]; omega) _)⟩
    clear hW
    generalize hb_oB : w.heap.size + 1 + 1 = b_oB at *
    generalize hb_sB : w.heap.size + 1 = b_sB at *
    have lt_cB := cB.lt
    have lt_sB := sB.lt
    have lt_oB := oB.lt
    go_upto_region 2 with (first | (refine wpl_load_row (by rfl) 24 (.tmp 2) rfl w.heap.size rfl 24 #[.int .i64 c.bits, .int .u64 c.one, .int .i64 c.ring, .int .u64 c.limit, .int .i64 c.room, .int .u64 c.mss, .int .u64 c.initial, .int .u64 c.least, .int .u64 c.most, .int .i64 c.algo, .int .u64 c.first, .int .u64 c.grain, .int .u64 c.cap, .int .u64 c.burst, .int .u64 c.slowest, .int .i64 c.chal, .int .u64 c.every] (0, 0) _ cB Try.underlying24 rfl (by kernel_rfl) ?_) | (go_at_call 20; refine (CK _).mono ?_; rintro x' y0 ⟨rfl, L0⟩; replace cB := cB.below L0 lt_cB; replace sB := sB.below L0 lt_sB; replace oB := oB.below L0 lt_oB; replace hL := Base.next hL L0; replace lt_cB := cB.lt; replace lt_sB := sB.lt; replace lt_oB := oB.lt; have sB_0 : _ = some (Value.int .u64 s0) := sB.cell 0; have sB_1 : _ = some (Value.int .u64 s1) := sB.cell 1; have sB_2 : _ = some (Value.int .u64 s2) := sB.cell 2; have sB_3 : _ = some (Value.int .u64 s3) := sB.cell 3; have sB_4 : _ = some (Value.int .u64 s4) := sB.cell 4; have sB_5 : _ = some (Value.int .u64 s5) := sB.cell 5; have sB_6 : _ = some (Value.int .u64 s6) := sB.cell 6; have sB_7 : _ = some (Value.int .u64 e) := sB.cell 7; have sB_8 : _ = some (Value.int .u64 k) := sB.cell 8))
    go_wp2_with (refine wpl_store_row rfl 31 (.tmp 4) (.tmp 8) rfl oB #[.int .u64 s0, .int .u64 s1, .int .u64 s2, .int .u64 s3, .int .u64 s4, .int .u64 s5, .int .u64 s6, .int .u64 e, .int .u64 k] rfl rfl (by kernel_rfl) rfl (by simp [Value.oneCell']) ?_)
    refine bodyPost_ret (results_cell_row rfl _ _ b_oB 31 #[.int .u64 s0, .int .u64 s1, .int .u64 s2, .int .u64 s3, .int .u64 s4, .int .u64 s5, .int .u64 s6, .int .u64 e, .int .u64 k] (0, 0) _ rfl (oB.setRow _) Try.underlying31 rfl (by kernel_rfl)) rfl ?_
    exact ⟨rfl, below_setRow' hL (by omega)⟩
set_option maxHeartbeats 4000000 in
theorem reduce_any (c : C) (hc : CFit c) (s : Kc) (hs : KFit s) (pn next : Int) (hp : U pn) (hn : U next) (num den : Int) (hr : U num) (hq : U den) (w : World) :
    Calls Try.prog 28 #[.agg #[.int .i64 c.bits, .int .u64 c.one, .int .i64 c.ring, .int .u64 c.limit, .int .i64 c.room, .int .u64 c.mss, .int .u64 c.initial, .int .u64 c.least, .int .u64 c.most, .int .i64 c.algo, .int .u64 c.first, .int .u64 c.grain, .int .u64 c.cap, .int .u64 c.burst, .int .u64 c.slowest, .int .i64 c.chal, .int .u64 c.every], .agg (kc s), .int .u64 pn, .int .u64 next, .agg #[.int .u64 num, .int .u64 den]] w fun e w' => e = .returned (.tuple #[.agg (kc (lossG c s pn next num den)), .bool (lossB c s pn)]) ∧ Below w.heap.size w w' := by
  have CK := fun V => may_any c V hc.rng
  have CB := fun V => Go.Proofs.Ytnnpklnhdfpnjaa.Round.begin_any s.d hs.d pn next hp.1 hp.2 hn.1 hn.2 V
  have CV := fun V => cutk_any c s.w hs.w num den hr hq V
  unfold freshP at CB
  cases hB : lossB c s pn with
  | false =>
    rw [show lossG c s pn next num den = s by unfold lossG; rw [if_neg (by rw [hB]; decide)]]
    clear CV
    unfold lossB at hB
    obtain ⟨⟨s0, s1, s2, s3, s4, s5, s6⟩, ⟨e, k⟩⟩ := s
    simp only at CB hB
    unfold kc
    simp only
    by_cases h0 : pos (flags c) = 0
    · rw [show (pos (flags c) == 0) = true by simpa using h0] at CK
      have h1 : decide (e ≤ pn) = false := by rw [h0] at hB; simpa using hB
      rw [h1] at CB
      clear h0 hB h1
      generalize beginP ⟨e, k⟩ pn next = d2 at *
      obtain ⟨e2, k2⟩ := d2
      simp only at CB
      go_enter Try.func28, Try.ntmps28
      go_upto_region 1 with fail
      refine at_any ?_
      intro W hW
      obtain ⟨cB, sB, fB, oB, hL⟩ : Blk W w.heap.size #[.int .i64 c.bits, .int .u64 c.one, .int .i64 c.ring, .int .u64 c.limit, .int .i64 c.room, .int .u64 c.mss, .int .u64 c.initial, .int .u64 c.least, .int .u64 c.most, .int .i64 c.algo, .int .u64 c.first, .int .u64 c.grain, .int .u64 c.cap, .int .u64 c.burst, .int .u64 c.slowest, .int .i64 c.chal, .int .u64 c.every] 24 ∧ Blk W (w.heap.size + 1) #[.int .u64 s0, .int .u64 s1, .int .u64 s2, .int .u64 s3, .int .u64 s4, .int .u64 s5, .int .u64 s6, .int .u64 e, .int .u64 k] 31 ∧ Blk W (w.heap.size + 1 + 1) #[.int .u64 num, .int .u64 den] 58 ∧ Blk W (w.heap.size + 1 + 1 + 1) #[.int .u64 0, .int .u64 0, .int .u64 0, .int .u64 0, .int .u64 0, .int .u64 0, .int .u64 0, .int .u64 0, .int .u64 0] 31 ∧ Below w.heap.size w W := by
        have h0 := Blk.new (w) #[.int .i64 c.bits, .int .u64 c.one, .int .i64 c.ring, .int .u64 c.limit, .int .i64 c.room, .int .u64 c.mss, .int .u64 c.initial, .int .u64 c.least, .int .u64 c.most, .int .i64 c.algo, .int .u64 c.first, .int .u64 c.grain, .int .u64 c.cap, .int .u64 c.burst, .int .u64 c.slowest, .int .i64 c.chal, .int .u64 c.every] 24
        have h1 := Blk.new (World.alloc (w) (.cells #[.int .i64 c.bits, .int .u64 c.one, .int .i64 c.ring, .int .u64 c.limit, .int .i64 c.room, .int .u64 c.mss, .int .u64 c.initial, .int .u64 c.least, .int .u64 c.most, .int .i64 c.algo, .int .u64 c.first, .int .u64 c.grain, .int .u64 c.cap, .int .u64 c.burst, .int .u64 c.slowest, .int .i64 c.chal, .int .u64 c.every] 24)) #[.int .u64 s0, .int .u64 s1, .int .u64 s2, .int .u64 s3, .int .u64 s4, .int .u64 s5, .int .u64 s6, .int .u64 e, .int .u64 k] 31
        have h2 := Blk.new (World.alloc (World.alloc (w) (.cells #[.int .i64 c.bits, .int .u64 c.one, .int .i64 c.ring, .int .u64 c.limit, .int .i64 c.room, .int .u64 c.mss, .int .u64 c.initial, .int .u64 c.least, .int .u64 c.most, .int .i64 c.algo, .int .u64 c.first, .int .u64 c.grain, .int .u64 c.cap, .int .u64 c.burst, .int .u64 c.slowest, .int .i64 c.chal, .int .u64 c.every] 24)) (.cells #[.int .u64 s0, .int .u64 s1, .int .u64 s2, .int .u64 s3, .int .u64 s4, .int .u64 s5, .int .u64 s6, .int .u64 e, .int .u64 k] 31)) #[.int .u64 num, .int .u64 den] 58
        have h3 := Blk.new (World.alloc (World.alloc (World.alloc (w) (.cells #[.int .i64 c.bits, .int .u64 c.one, .int .i64 c.ring, .int .u64 c.limit, .int .i64 c.room, .int .u64 c.mss, .int .u64 c.initial, .int .u64 c.least, .int .u64 c.most, .int .i64 c.algo, .int .u64 c.first, .int .u64 c.grain, .int .u64 c.cap, .int .u64 c.burst, .int .u64 c.slowest, .int .i64 c.chal, .int .u64 c.every] 24)) (.cells #[.int .u64 s0, .int .u64 s1, .int .u64 s2, .int .u64 s3, .int .u64 s4, .int .u64 s5, .int .u64 s6, .int .u64 e, .int .u64 k] 31)) (.cells #[.int .u64 num, .int .u64 den] 58)) #[.int .u64 0, .int .u64 0, .int .u64 0, .int .u64 0, .int .u64 0, .int .u64 0, .int .u64 0, .int .u64 0, .int .u64 0] 31
        simp only [World.size_alloc] at h1 h2 h3
        subst hW
        exact ⟨(((h0.alloc _).alloc _).alloc _), ((h1.alloc _).alloc _), (h2.alloc _), h3, (((((Below.refl _ _).alloc (Nat.le_refl _) _).alloc (by simp only [World.size_alloc]; omega) _).alloc (by simp only [World.size_alloc]; omega) _).alloc (by simp only [World.size_alloc]; omega) _)⟩
      clear hW
      generalize hb_oB : w.heap.size + 1 + 1 + 1 = b_oB at *
      generalize hb_fB : w.heap.size + 1 + 1 = b_fB at *
      generalize hb_sB : w.heap.size + 1 = b_sB at *
      have lt_cB := cB.lt
      have lt_sB := sB.lt
      have lt_fB := fB.lt
      have lt_oB := oB.lt
      go_upto_region 3 with (first | (refine wpl_load_row (by rfl) 24 (.tmp 5) rfl w.heap.size rfl 24 #[.int .i64 c.bits, .int .u64 c.one, .int .i64 c.ring, .int .u64 c.limit, .int .i64 c.room, .int .u64 c.mss, .int .u64 c.initial, .int .u64 c.least, .int .u64 c.most, .int .i64 c.algo, .int .u64 c.first, .int .u64 c.grain, .int .u64 c.cap, .int .u64 c.burst, .int .u64 c.slowest, .int .i64 c.chal, .int .u64 c.every] (0, 0) _ cB Try.underlying24 rfl (by kernel_rfl) ?_) | (go_at_call 20; refine (CK _).mono ?_; rintro x' y0 ⟨rfl, L0⟩; replace cB := cB.below L0 lt_cB; replace sB := sB.below L0 lt_sB; replace fB := fB.below L0 lt_fB; replace oB := oB.below L0 lt_oB; replace hL := Base.next hL L0; replace lt_cB := cB.lt; replace lt_sB := sB.lt; replace lt_fB := fB.lt; replace lt_oB := oB.lt; have sB_7 : _ = some (Value.int .u64 e) := sB.cell 7; have sB_8 : _ = some (Value.int .u64 k) := sB.cell 8))
      go_upto_region 4 with (go_at_call 49; refine (CB _).mono ?_; rintro x' y ⟨rfl, L1⟩; replace cB := cB.below L1 lt_cB; replace sB := sB.below L1 lt_sB; replace fB := fB.below L1 lt_fB; replace oB := oB.below L1 lt_oB; replace hL := Base.next hL L1; replace lt_cB := cB.lt; replace lt_sB := sB.lt; replace lt_fB := fB.lt; replace lt_oB := oB.lt)
      refine at_any ?_
      intro X hX
      obtain ⟨rB', cB', sB', fB', oB', hL'⟩ : Blk X y.heap.size #[.int .u64 e2, .int .u64 k2] 29 ∧ Blk X w.heap.size #[.int .i64 c.bits, .int .u64 c.one, .int .i64 c.ring, .int .u64 c.limit, .int .i64 c.room, .int .u64 c.mss, .int .u64 c.initial, .int .u64 c.least, .int .u64 c.most, .int .i64 c.algo, .int .u64 c.first, .int .u64 c.grain, .int .u64 c.cap, .int .u64 c.burst, .int .u64 c.slowest, .int .i64 c.chal, .int .u64 c.every] 24 ∧ Blk X b_sB #[.int .u64 s0, .int .u64 s1, .int .u64 s2, .int .u64 s3, .int .u64 s4, .int .u64 s5, .int .u64 s6, .int .u64 e, .int .u64 k] 31 ∧ Blk X b_fB #[.int .u64 num, .int .u64 den] 58 ∧ Blk X b_oB #[.int .u64 0, .int .u64 0, .int .u64 0, .int .u64 0, .int .u64 0, .int .u64 0, .int .u64 0, .int .u64 0, .int .u64 0] 31 ∧ Below w.heap.size w X := by
        subst hX
        exact ⟨Blk.new _ _ _, cB.alloc _, sB.alloc _, fB.alloc _, oB.alloc _, hL.alloc hL.size _⟩
      have hgt : b_oB < y.heap.size := lt_oB
      clear hX cB sB fB oB hL
      clear lt_cB lt_sB lt_fB lt_oB sB_7 sB_8
      generalize y.heap.size = b_rB at *
      have rB := rB'
      have cB := cB'
      have sB := sB'
      have fB := fB'
      have oB := oB'
      have hL := hL'
      clear rB' cB' sB' fB' oB' hL'
      have lt_rB := rB.lt
      have lt_cB := cB.lt
      have lt_sB := sB.lt
      have sB_0 : _ = some (Value.int .u64 s0) := sB.cell 0
      have sB_1 : _ = some (Value.int .u64 s1) := sB.cell 1
      have sB_2 : _ = some (Value.int .u64 s2) := sB.cell 2
      have sB_3 : _ = some (Value.int .u64 s3) := sB.cell 3
      have sB_4 : _ = some (Value.int .u64 s4) := sB.cell 4
      have sB_5 : _ = some (Value.int .u64 s5) := sB.cell 5
      have sB_6 : _ = some (Value.int .u64 s6) := sB.cell 6
      have sB_7 : _ = some (Value.int .u64 e) := sB.cell 7
      have sB_8 : _ = some (Value.int .u64 k) := sB.cell 8
      have lt_fB := fB.lt
      have lt_oB := oB.lt
      go_upto_region 5 with fail
      go_wp2_with (refine wpl_store_row rfl 31 (.tmp 10) (.tmp 28) rfl oB #[.int .u64 s0, .int .u64 s1, .int .u64 s2, .int .u64 s3, .int .u64 s4, .int .u64 s5, .int .u64 s6, .int .u64 e, .int .u64 k] rfl rfl (by kernel_rfl) rfl (by simp [Value.oneCell']) ?_)
      refine bodyPost_ret (Round.results_rowR rfl _ _ b_oB 31 #[.int .u64 s0, .int .u64 s1, .int .u64 s2, .int .u64 s3, .int .u64 s4, .int .u64 s5, .int .u64 s6, .int .u64 e, .int .u64 k] _ rfl (oB.setRow _) Try.underlying31 rfl (by kernel_rfl)) rfl ?_
      exact ⟨rfl, below_setRow' hL (by omega)⟩
    · rw [show (pos (flags c) == 0) = false by simpa using h0] at CK
      clear h0 hB CB
      go_enter Try.func28, Try.ntmps28
      go_upto_region 1 with fail
      refine at_any ?_
      intro W hW
      obtain ⟨cB, sB, fB, oB, hL⟩ : Blk W w.heap.size #[.int .i64 c.bits, .int .u64 c.one, .int .i64 c.ring, .int .u64 c.limit, .int .i64 c.room, .int .u64 c.mss, .int .u64 c.initial, .int .u64 c.least, .int .u64 c.most, .int .i64 c.algo, .int .u64 c.first, .int .u64 c.grain, .int .u64 c.cap, .int .u64 c.burst, .int .u64 c.slowest, .int .i64 c.chal, .int .u64 c.every] 24 ∧ Blk W (w.heap.size + 1) #[.int .u64 s0, .int .u64 s1, .int .u64 s2, .int .u64 s3, .int .u64 s4, .int .u64 s5, .int .u64 s6, .int .u64 e, .int .u64 k] 31 ∧ Blk W (w.heap.size + 1 + 1) #[.int .u64 num, .int .u64 den] 58 ∧ Blk W (w.heap.size + 1 + 1 + 1) #[.int .u64 0, .int .u64 0, .int .u64 0, .int .u64 0, .int .u64 0, .int .u64 0, .int .u64 0, .int .u64 0, .int .u64 0] 31 ∧ Below w.heap.size w W := by
        have h0 := Blk.new (w) #[.int .i64 c.bits, .int .u64 c.one, .int .i64 c.ring, .int .u64 c.limit, .int .i64 c.room, .int .u64 c.mss, .int .u64 c.initial, .int .u64 c.least, .int .u64 c.most, .int .i64 c.algo, .int .u64 c.first, .int .u64 c.grain, .int .u64 c.cap, .int .u64 c.burst, .int .u64 c.slowest, .int .i64 c.chal, .int .u64 c.every] 24
        have h1 := Blk.new (World.alloc (w) (.cells #[.int .i64 c.bits, .int .u64 c.one, .int .i64 c.ring, .int .u64 c.limit, .int .i64 c.room, .int .u64 c.mss, .int .u64 c.initial, .int .u64 c.least, .int .u64 c.most, .int .i64 c.algo, .int .u64 c.first, .int .u64 c.grain, .int .u64 c.cap, .int .u64 c.burst, .int .u64 c.slowest, .int .i64 c.chal, .int .u64 c.every] 24)) #[.int .u64 s0, .int .u64 s1, .int .u64 s2, .int .u64 s3, .int .u64 s4, .int .u64 s5, .int .u64 s6, .int .u64 e, .int .u64 k] 31
        have h2 := Blk.new (World.alloc (World.alloc (w) (.cells #[.int .i64 c.bits, .int .u64 c.one, .int .i64 c.ring, .int .u64 c.limit, .int .i64 c.room, .int .u64 c.mss, .int .u64 c.initial, .int .u64 c.least, .int .u64 c.most, .int .i64 c.algo, .int .u64 c.first, .int .u64 c.grain, .int .u64 c.cap, .int .u64 c.burst, .int .u64 c.slowest, .int .i64 c.chal, .int .u64 c.every] 24)) (.cells #[.int .u64 s0, .int .u64 s1, .int .u64 s2, .int .u64 s3, .int .u64 s4, .int .u64 s5, .int .u64 s6, .int .u64 e, .int .u64 k] 31)) #[.int .u64 num, .int .u64 den] 58
        have h3 := Blk.new (World.alloc (World.alloc (World.alloc (w) (.cells #[.int .i64 c.bits, .int .u64 c.one, .int .i64 c.ring, .int .u64 c.limit, .int .i64 c.room, .int .u64 c.mss, .int .u64 c.initial, .int .u64 c.least, .int .u64 c.most, .int .i64 c.algo, .int .u64 c.first, .int .u64 c.grain, .int .u64 c.cap, .int .u64 c.burst, .int .u64 c.slowest, .int .i64 c.chal, .int .u64 c.every] 24)) (.cells #[.int .u64 s0, .int .u64 s1, .int .u64 s2, .int .u64 s3, .int .u64 s4, .int .u64 s5, .int .u64 s6, .int .u64 e, .int .u64 k] 31)) (.cells #[.int .u64 num, .int .u64 den] 58)) #[.int .u64 0, .int .u64 0, .int .u64 0, .int .u64 0, .int .u64 0, .int .u64 0, .int .u64 0, .int .u64 0, .int .u64 0] 31
        simp only [World.size_alloc] at h1 h2 h3
        subst hW
        exact ⟨(((h0.alloc _).alloc _).alloc _), ((h1.alloc _).alloc _), (h2.alloc _), h3, (((((Below.refl _ _).alloc (Nat.le_refl _) _).alloc (by simp only [World.size_alloc]; omega) _).alloc (by simp only [World.size_alloc]; omega) _).alloc (by simp only [World.size_alloc]; omega) _)⟩
      clear hW
      generalize hb_oB : w.heap.size + 1 + 1 + 1 = b_oB at *
      generalize hb_fB : w.heap.size + 1 + 1 = b_fB at *
      generalize hb_sB : w.heap.size + 1 = b_sB at *
      have lt_cB := cB.lt
      have lt_sB := sB.lt
      have lt_fB := fB.lt
      have lt_oB := oB.lt
      go_upto_region 2 with (first | (refine wpl_load_row (by rfl) 24 (.tmp 5) rfl w.heap.size rfl 24 #[.int .i64 c.bits, .int .u64 c.one, .int .i64 c.ring, .int .u64 c.limit, .int .i64 c.room, .int .u64 c.mss, .int .u64 c.initial, .int .u64 c.least, .int .u64 c.most, .int .i64 c.algo, .int .u64 c.first, .int .u64 c.grain, .int .u64 c.cap, .int .u64 c.burst, .int .u64 c.slowest, .int .i64 c.chal, .int .u64 c.every] (0, 0) _ cB Try.underlying24 rfl (by kernel_rfl) ?_) | (go_at_call 20; refine (CK _).mono ?_; rintro x' y0 ⟨rfl, L0⟩; replace cB := cB.below L0 lt_cB; replace sB := sB.below L0 lt_sB; replace fB := fB.below L0 lt_fB; replace oB := oB.below L0 lt_oB; replace hL := Base.next hL L0; replace lt_cB := cB.lt; replace lt_sB := sB.lt; replace lt_fB := fB.lt; replace lt_oB := oB.lt; have sB_0 : _ = some (Value.int .u64 s0) := sB.cell 0; have sB_1 : _ = some (Value.int .u64 s1) := sB.cell 1; have sB_2 : _ = some (Value.int .u64 s2) := sB.cell 2; have sB_3 : _ = some (Value.int .u64 s3) := sB.cell 3; have sB_4 : _ = some (Value.int .u64 s4) := sB.cell 4; have sB_5 : _ = some (Value.int .u64 s5) := sB.cell 5; have sB_6 : _ = some (Value.int .u64 s6) := sB.cell 6; have sB_7 : _ = some (Value.int .u64 e) := sB.cell 7; have sB_8 : _ = some (Value.int .u64 k) := sB.cell 8))
      go_wp2_with (refine wpl_store_row rfl 31 (.tmp 10) (.tmp 17) rfl oB #[.int .u64 s0, .int .u64 s1, .int .u64 s2, .int .u64 s3, .int .u64 s4, .int .u64 s5, .int .u64 s6, .int .u64 e, .int .u64 k] rfl rfl (by kernel_rfl) rfl (by simp [Value.oneCell']) ?_)
      refine bodyPost_ret (Round.results_rowR rfl _ _ b_oB 31 #[.int .u64 s0, .int .u64 s1, .int .u64 s2, .int .u64 s3, .int .u64 s4, .int .u64 s5, .int .u64 s6, .int .u64 e, .int .u64 k] _ rfl (oB.setRow _) Try.underlying31 rfl (by kernel_rfl)) rfl ?_
      exact ⟨rfl, below_setRow' hL (by omega)⟩
  | true =>
    rw [show lossG c s pn next num den = ⟨cutG c s.w num den, beginP s.d pn next⟩ by unfold lossG; rw [if_pos hB]]
    unfold lossB at hB
    obtain ⟨⟨s0, s1, s2, s3, s4, s5, s6⟩, ⟨e, k⟩⟩ := s
    simp only at CB hB CV
    unfold WinPost at CV
    unfold kc
    simp only
    generalize cutG c ⟨s0, s1, s2, s3, s4, s5, s6⟩ num den = v at *
    obtain ⟨q0, q1, q2, q3, q4, q5, q6⟩ := v
    generalize beginP ⟨e, k⟩ pn next = d2 at *
    obtain ⟨e2, k2⟩ := d2
    unfold wc at CV
    simp only at CB CV ⊢
    simp only [Bool.and_eq_true, decide_eq_true_eq] at hB
    rw [show (pos (flags c) == 0) = true by simpa using hB.1] at CK
    rw [show decide (e ≤ pn) = true from decide_eq_true hB.2] at CB
    clear hB
    go_enter Try.func28, Try.ntmps28
    go_upto_region 1 with fail
    refine at_any ?_
    intro W hW
    obtain ⟨cB, sB, fB, oB, hL⟩ : Blk W w.heap.size #[.int .i64 c.bits, .int .u64 c.one, .int .i64 c.ring, .int .u64 c.limit, .int .i64 c.room, .int .u64 c.mss, .int .u64 c.initial, .int .u64 c.least, .int .u64 c.most, .int .i64 c.algo, .int .u64 c.first, .int .u64 c.grain, .int .u64 c.cap, .int .u64 c.burst, .int .u64 c.slowest, .int .i64 c.chal, .int .u64 c.every] 24 ∧ Blk W (w.heap.size + 1) #[.int .u64 s0, .int .u64 s1, .int .u64 s2, .int .u64 s3, .int .u64 s4, .int .u64 s5, .int .u64 s6, .int .u64 e, .int .u64 k] 31 ∧ Blk W (w.heap.size + 1 + 1) #[.int .u64 num, .int .u64 den] 58 ∧ Blk W (w.heap.size + 1 + 1 + 1) #[.int .u64 0, .int .u64 0, .int .u64 0, .int .u64 0, .int .u64 0, .int .u64 0, .int .u64 0, .int .u64 0, .int .u64 0] 31 ∧ Below w.heap.size w W := by
      have h0 := Blk.new (w) #[.int .i64 c.bits, .int .u64 c.one, .int .i64 c.ring, .int .u64 c.limit, .int .i64 c.room, .int .u64 c.mss, .int .u64 c.initial, .int .u64 c.least, .int .u64 c.most, .int .i64 c.algo, .int .u64 c.first, .int .u64 c.grain, .int .u64 c.cap, .int .u64 c.burst, .int .u64 c.slowest, .int .i64 c.chal, .int .u64 c.every] 24
      have h1 := Blk.new (World.alloc (w) (.cells #[.int .i64 c.bits, .int .u64 c.one, .int .i64 c.ring, .int .u64 c.limit, .int .i64 c.room, .int .u64 c.mss, .int .u64 c.initial, .int .u64 c.least, .int .u64 c.most, .int .i64 c.algo, .int .u64 c.first, .int .u64 c.grain, .int .u64 c.cap, .int .u64 c.burst, .int .u64 c.slowest, .int .i64 c.chal, .int .u64 c.every] 24)) #[.int .u64 s0, .int .u64 s1, .int .u64 s2, .int .u64 s3, .int .u64 s4, .int .u64 s5, .int .u64 s6, .int .u64 e, .int .u64 k] 31
      have h2 := Blk.new (World.alloc (World.alloc (w) (.cells #[.int .i64 c.bits, .int .u64 c.one, .int .i64 c.ring, .int .u64 c.limit, .int .i64 c.room, .int .u64 c.mss, .int .u64 c.initial, .int .u64 c.least, .int .u64 c.most, .int .i64 c.algo, .int .u64 c.first, .int .u64 c.grain, .int .u64 c.cap, .int .u64 c.burst, .int .u64 c.slowest, .int .i64 c.chal, .int .u64 c.every] 24)) (.cells #[.int .u64 s0, .int .u64 s1, .int .u64 s2, .int .u64 s3, .int .u64 s4, .int .u64 s5, .int .u64 s6, .int .u64 e, .int .u64 k] 31)) #[.int .u64 num, .int .u64 den] 58
      have h3 := Blk.new (World.alloc (World.alloc (World.alloc (w) (.cells #[.int .i64 c.bits, .int .u64 c.one, .int .i64 c.ring, .int .u64 c.limit, .int .i64 c.room, .int .u64 c.mss, .int .u64 c.initial, .int .u64 c.least, .int .u64 c.most, .int .i64 c.algo, .int .u64 c.first, .int .u64 c.grain, .int .u64 c.cap, .int .u64 c.burst, .int .u64 c.slowest, .int .i64 c.chal, .int .u64 c.every] 24)) (.cells #[.int .u64 s0, .int .u64 s1, .int .u64 s2, .int .u64 s3, .int .u64 s4, .int .u64 s5, .int .u64 s6, .int .u64 e, .int .u64 k] 31)) (.cells #[.int .u64 num, .int .u64 den] 58)) #[.int .u64 0, .int .u64 0, .int .u64 0, .int .u64 0, .int .u64 0, .int .u64 0, .int .u64 0, .int .u64 0, .int .u64 0] 31
      simp only [World.size_alloc] at h1 h2 h3
      subst hW
      exact ⟨(((h0.alloc _).alloc _).alloc _), ((h1.alloc _).alloc _), (h2.alloc _), h3, (((((Below.refl _ _).alloc (Nat.le_refl _) _).alloc (by simp only [World.size_alloc]; omega) _).alloc (by simp only [World.size_alloc]; omega) _).alloc (by simp only [World.size_alloc]; omega) _)⟩
    clear hW
    generalize hb_oB : w.heap.size + 1 + 1 + 1 = b_oB at *
    generalize hb_fB : w.heap.size + 1 + 1 = b_fB at *
    generalize hb_sB : w.heap.size + 1 = b_sB at *
    have lt_cB := cB.lt
    have lt_sB := sB.lt
    have lt_fB := fB.lt
    have lt_oB := oB.lt
    go_upto_region 3 with (first | (refine wpl_load_row (by rfl) 24 (.tmp 5) rfl w.heap.size rfl 24 #[.int .i64 c.bits, .int .u64 c.one, .int .i64 c.ring, .int .u64 c.limit, .int .i64 c.room, .int .u64 c.mss, .int .u64 c.initial, .int .u64 c.least, .int .u64 c.most, .int .i64 c.algo, .int .u64 c.first, .int .u64 c.grain, .int .u64 c.cap, .int .u64 c.burst, .int .u64 c.slowest, .int .i64 c.chal, .int .u64 c.every] (0, 0) _ cB Try.underlying24 rfl (by kernel_rfl) ?_) | (go_at_call 20; refine (CK _).mono ?_; rintro x' y0 ⟨rfl, L0⟩; replace cB := cB.below L0 lt_cB; replace sB := sB.below L0 lt_sB; replace fB := fB.below L0 lt_fB; replace oB := oB.below L0 lt_oB; replace hL := Base.next hL L0; replace lt_cB := cB.lt; replace lt_sB := sB.lt; replace lt_fB := fB.lt; replace lt_oB := oB.lt; have sB_7 : _ = some (Value.int .u64 e) := sB.cell 7; have sB_8 : _ = some (Value.int .u64 k) := sB.cell 8))
    go_upto_region 4 with (go_at_call 49; refine (CB _).mono ?_; rintro x' y ⟨rfl, L1⟩; replace cB := cB.below L1 lt_cB; replace sB := sB.below L1 lt_sB; replace fB := fB.below L1 lt_fB; replace oB := oB.below L1 lt_oB; replace hL := Base.next hL L1; replace lt_cB := cB.lt; replace lt_sB := sB.lt; replace lt_fB := fB.lt; replace lt_oB := oB.lt)
    refine at_any ?_
    intro X hX
    obtain ⟨rB', cB', sB', fB', oB', hL'⟩ : Blk X y.heap.size #[.int .u64 e2, .int .u64 k2] 29 ∧ Blk X w.heap.size #[.int .i64 c.bits, .int .u64 c.one, .int .i64 c.ring, .int .u64 c.limit, .int .i64 c.room, .int .u64 c.mss, .int .u64 c.initial, .int .u64 c.least, .int .u64 c.most, .int .i64 c.algo, .int .u64 c.first, .int .u64 c.grain, .int .u64 c.cap, .int .u64 c.burst, .int .u64 c.slowest, .int .i64 c.chal, .int .u64 c.every] 24 ∧ Blk X b_sB #[.int .u64 s0, .int .u64 s1, .int .u64 s2, .int .u64 s3, .int .u64 s4, .int .u64 s5, .int .u64 s6, .int .u64 e, .int .u64 k] 31 ∧ Blk X b_fB #[.int .u64 num, .int .u64 den] 58 ∧ Blk X b_oB #[.int .u64 0, .int .u64 0, .int .u64 0, .int .u64 0, .int .u64 0, .int .u64 0, .int .u64 0, .int .u64 0, .int .u64 0] 31 ∧ Below w.heap.size w X := by
      subst hX
      exact ⟨Blk.new _ _ _, cB.alloc _, sB.alloc _, fB.alloc _, oB.alloc _, hL.alloc hL.size _⟩
    have hgt : b_oB < y.heap.size := lt_oB
    clear hX cB sB fB oB hL
    clear lt_cB lt_sB lt_fB lt_oB sB_7 sB_8
    generalize y.heap.size = b_rB at *
    have rB := rB'
    have cB := cB'
    have sB := sB'
    have fB := fB'
    have oB := oB'
    have hL := hL'
    clear rB' cB' sB' fB' oB' hL'
    have lt_rB := rB.lt
    have lt_cB := cB.lt
    have lt_sB := sB.lt
    have lt_fB := fB.lt
    have lt_oB := oB.lt
    go_upto_region 6 with fail
    refine at_any ?_
    intro Y hY
    obtain ⟨rB', cB', sB', fB', oB', hL'⟩ : Blk Y b_rB #[.int .u64 e2, .int .u64 k2] 29 ∧ Blk Y w.heap.size #[.int .i64 c.bits, .int .u64 c.one, .int .i64 c.ring, .int .u64 c.limit, .int .i64 c.room, .int .u64 c.mss, .int .u64 c.initial, .int .u64 c.least, .int .u64 c.most, .int .i64 c.algo, .int .u64 c.first, .int .u64 c.grain, .int .u64 c.cap, .int .u64 c.burst, .int .u64 c.slowest, .int .i64 c.chal, .int .u64 c.every] 24 ∧ Blk Y b_sB #[.int .u64 s0, .int .u64 s1, .int .u64 s2, .int .u64 s3, .int .u64 s4, .int .u64 s5, .int .u64 s6, .int .u64 e, .int .u64 k] 31 ∧ Blk Y b_fB #[.int .u64 num, .int .u64 den] 58 ∧ Blk Y b_oB #[.int .u64 0, .int .u64 0, .int .u64 0, .int .u64 0, .int .u64 0, .int .u64 0, .int .u64 0, .int .u64 0, .int .u64 0] 31 ∧ Below w.heap.size w Y := by
      subst hY
      exact ⟨rB, cB, sB, fB, oB, hL⟩
    clear hY rB cB sB fB oB hL
    clear lt_rB lt_cB lt_sB lt_fB lt_oB
    have f0 := fun p : In (Lt Y) => inCell p (o := 0) (v := .int .i64 c.bits) (cB'.cell 0)
    have f1 := fun p : In (Lt Y) => inCell p (o := 1) (v := .int .u64 c.one) (cB'.cell 1)
    have f2 := fun p : In (Lt Y) => inCell p (o := 2) (v := .int .i64 c.ring) (cB'.cell 2)
    have f3 := fun p : In (Lt Y) => inCell p (o := 3) (v := .int .u64 c.limit) (cB'.cell 3)
    have f4 := fun p : In (Lt Y) => inCell p (o := 4) (v := .int .i64 c.room) (cB'.cell 4)
    have f5 := fun p : In (Lt Y) => inCell p (o := 5) (v := .int .u64 c.mss) (cB'.cell 5)
    have f6 := fun p : In (Lt Y) => inCell p (o := 6) (v := .int .u64 c.initial) (cB'.cell 6)
    have f7 := fun p : In (Lt Y) => inCell p (o := 7) (v := .int .u64 c.least) (cB'.cell 7)
    have f8 := fun p : In (Lt Y) => inCell p (o := 8) (v := .int .u64 c.most) (cB'.cell 8)
    have f9 := fun p : In (Lt Y) => inCell p (o := 9) (v := .int .i64 c.algo) (cB'.cell 9)
    have f10 := fun p : In (Lt Y) => inCell p (o := 10) (v := .int .u64 c.first) (cB'.cell 10)
    have f11 := fun p : In (Lt Y) => inCell p (o := 11) (v := .int .u64 c.grain) (cB'.cell 11)
    have f12 := fun p : In (Lt Y) => inCell p (o := 12) (v := .int .u64 c.cap) (cB'.cell 12)
    have f13 := fun p : In (Lt Y) => inCell p (o := 13) (v := .int .u64 c.burst) (cB'.cell 13)
    have f14 := fun p : In (Lt Y) => inCell p (o := 14) (v := .int .u64 c.slowest) (cB'.cell 14)
    have f15 := fun p : In (Lt Y) => inCell p (o := 15) (v := .int .i64 c.chal) (cB'.cell 15)
    have f16 := fun p : In (Lt Y) => inCell p (o := 16) (v := .int .u64 c.every) (cB'.cell 16)
    have g0 := fun p : In (Lt Y) => inCell p (o := 0) (v := .int .u64 s0) (sB'.cell 0)
    have g1 := fun p : In (Lt Y) => inCell p (o := 1) (v := .int .u64 s1) (sB'.cell 1)
    have g2 := fun p : In (Lt Y) => inCell p (o := 2) (v := .int .u64 s2) (sB'.cell 2)
    have g3 := fun p : In (Lt Y) => inCell p (o := 3) (v := .int .u64 s3) (sB'.cell 3)
    have g4 := fun p : In (Lt Y) => inCell p (o := 4) (v := .int .u64 s4) (sB'.cell 4)
    have g5 := fun p : In (Lt Y) => inCell p (o := 5) (v := .int .u64 s5) (sB'.cell 5)
    have g6 := fun p : In (Lt Y) => inCell p (o := 6) (v := .int .u64 s6) (sB'.cell 6)
    have h0 := fun p : In (Lt Y) => inCell p (o := 0) (v := .int .u64 num) (fB'.cell 0)
    have h1 := fun p : In (Lt Y) => inCell p (o := 1) (v := .int .u64 den) (fB'.cell 1)
    have r0 := fun p : In (Lt Y) => inCell p (o := 0) (v := .int .u64 e2) (rB'.cell 0)
    have r1 := fun p : In (Lt Y) => inCell p (o := 1) (v := .int .u64 k2) (rB'.cell 1)
    refine wp_region_rest (C := fun w' => ∃ p : In (Lt Y), w' = p.w) 7 2 (by kernel_rfl) (by kernel_rfl) (by kernel_rfl) (by kernel_rfl) (by kernel_rfl) ⟨⟨Y.drew, Lt.drew Y⟩, rfl⟩ ?_
    simp only [List.toList_toArray, List.take_succ_cons, List.take_zero]
    repeat (go_big_quiet_step (first | (go_at_call 33; refine in_below (v := .agg #[.int .u64 q0, .int .u64 q1, .int .u64 q2, .int .u64 q3, .int .u64 q4, .int .u64 q5, .int .u64 q6]) ?_; exact CV _)))
    refine wpQuiet_nil ?_
    rintro w5 ⟨⟨_, hw5⟩, rfl⟩
    have hw5 : Below Y.heap.size Y w5 := hw5
    clear f0 f1 f2 f3 f4 f5 f6 f7 f8 f9 f10 f11 f12 f13 f14 f15 f16 g0 g1 g2 g3 g4 g5 g6 h0 h1 r0 r1 CV
    refine wpAny_of_held (S := fun _ => True) _ _ _ _ ?_
    have oB5 := oB'.below hw5 oB'.lt
    have hL5 := Base.next hL' hw5
    refine held_st (i := 7) rfl (by kernel_rfl) (by kernel_rfl) (st_row 31 (.tmp 10) (.tmp 35) rfl (g := b_oB) (cells := #[.int .u64 q0, .int .u64 q1, .int .u64 q2, .int .u64 q3, .int .u64 q4, .int .u64 q5, .int .u64 q6, .int .u64 e2, .int .u64 k2]) (by kernel_rfl) (by kernel_rfl) oB5 (by kernel_rfl) rfl (by simp [Value.oneCell'])) trivial ?_
    refine held_one (i := 8) (v := .bool true) (w' := w5.setRow b_oB #[.int .u64 q0, .int .u64 q1, .int .u64 q2, .int .u64 q3, .int .u64 q4, .int .u64 q5, .int .u64 q6, .int .u64 e2, .int .u64 k2]) rfl (by kernel_rfl) (by kernel_rfl) (by kernel_rfl) trivial ?_
    refine held_done (by kernel_rfl) ?_
    have oB6 : Blk (w5.setRow b_oB #[.int .u64 q0, .int .u64 q1, .int .u64 q2, .int .u64 q3, .int .u64 q4, .int .u64 q5, .int .u64 q6, .int .u64 e2, .int .u64 k2]) b_oB #[.int .u64 q0, .int .u64 q1, .int .u64 q2, .int .u64 q3, .int .u64 q4, .int .u64 q5, .int .u64 q6, .int .u64 e2, .int .u64 k2] 31 := oB5.setRow _
    have hL6 : Below w.heap.size w (w5.setRow b_oB #[.int .u64 q0, .int .u64 q1, .int .u64 q2, .int .u64 q3, .int .u64 q4, .int .u64 q5, .int .u64 q6, .int .u64 e2, .int .u64 k2]) := below_setRow' hL5 (by omega)
    generalize w5.setRow b_oB #[.int .u64 q0, .int .u64 q1, .int .u64 q2, .int .u64 q3, .int .u64 q4, .int .u64 q5, .int .u64 q6, .int .u64 e2, .int .u64 k2] = Z at *
    go_wp2
    refine bodyPost_ret (Round.results_rowR rfl _ _ b_oB 31 #[.int .u64 q0, .int .u64 q1, .int .u64 q2, .int .u64 q3, .int .u64 q4, .int .u64 q5, .int .u64 q6, .int .u64 e2, .int .u64 k2] _ rfl oB6 Try.underlying31 rfl (by kernel_rfl)) rfl ?_
    exact ⟨rfl, hL6⟩
end Go.Proofs.Ytnnpklnhdfpnjaa.Control
