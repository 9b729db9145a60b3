/-
  Contracts of the reference's token buckets: full, Fill, TakePace, NextPace.
-/
import Derived.Test.YtbamdilihpnhjaaPacerPlain
import Derived.Test.YtbamdilihpnhjaaRenoRef
import Derived.Test.YtbamdilihpnhjaaRoundRef
set_option linter.unusedSimpArgs false
set_option linter.unusedVariables false
namespace Go.Proofs.Ytbamdilihpnhjaa.Pacer
set_option linter.unusedVariables false
set_option maxRecDepth 20000
open Go.ChangeShapes Go.WideShapes Go.ChangeAt Go.RowKit
open Go.Proofs.Ytbamdilihpnhjaa.Base Go.Proofs.Ytbamdilihpnhjaa.RenoPlain Go.Proofs.Ytbamdilihpnhjaa.PacerPlain Go.Proofs.Ytbamdilihpnhjaa.Reno Go.Proofs.Ytbamdilihpnhjaa.Hop

/-- A bucket's cells. -/
def pc (p : Pc) : Array Value := #[.int .u64 p.tok, .int .u64 p.at_, .int .u64 p.rate]
def PcPost (w : World) (p : Pc) : Ending → World → Prop := fun e w' => e = .returned (.agg (pc p)) ∧ Below w.heap.size w w'
theorem ref_full (b : Int) (hb : U b) (w : World) : Calls Try.prog 22 #[.int .u64 b] w fun e w' => e = .returned (.int .u64 (full b)) ∧ w = w' := by
  have CM := fun V => Sat.ref_mul b 1000000 hb.1 hb.2 (by decide) (by decide) V
  unfold full
  generalize Sat.mul b 1000000 = m at *
  go_enter Try.func22, Try.ntmps22
  go_wp2_with (go_at_call 15; refine (CM _).mono ?_; rintro x' y ⟨rfl, rfl⟩)
  go_ret
  exact ⟨rfl, rfl⟩
theorem up_one {x d : Int} (h0 : 0 ≤ x) (h1 : x ≤ 18446744073709551615) (hd : 0 < d) : U (Wide.up x 1 d) := by
  have h2 := Int.ediv_nonneg h0 (show 0 ≤ d by omega)
  have h3 : x / d ≤ x := Int.ediv_le_self _ h0
  unfold Wide.up U
  rw [Int.mul_one]
  split
  · omega
  · split <;> omega
set_option maxHeartbeats 4000000 in
theorem ref_fill (p : Pc) (hp : PFit p) (burst now : Int) (hb : U burst) (hn : U now) (w : World) :
    Calls Try.prog 18 #[.agg (pc p), .int .u64 burst, .int .u64 now] w (PcPost w (fillP p burst now)) := by
  obtain ⟨hT, hA, hR⟩ := hp
  obtain ⟨t, a, r⟩ := p
  simp only at hT hA hR
  unfold PcPost fillP pc
  simp only
  have CF := fun V => ref_full burst hb V
  have bF := full_bd hb.1
  generalize full burst = fb at *
  have CS := fun V => Sat.ref_sub now a hn.1 hn.2 hA.1 hA.2 V
  have bS := Sat.sub_bd (a := now) (b := a) hA.1 hn.2
  generalize Sat.sub now a = su at *
  have CM := fun V => Sat.ref_mul r su hR.1 hR.2 bS.1 bS.2 V
  have bM := mul_bd hR.1 bS.1
  generalize Sat.mul r su = mu at *
  have CA := fun V => Sat.ref_add t mu hT.1 hT.2 bM.1 bM.2 V
  generalize Sat.add t mu = ad at *
  have m1 : (if ad < fb then ad else fb) = min fb ad := by split <;> omega
  generalize min fb ad = mn at *
  generalize hmx : max a now = mx at *
  have HM := Lib.hid hmx
  clear hmx
  go_enter Try.func18, Try.ntmps18
  go_upto_region 1 with fail
  refine at_any ?_
  intro W hW
  obtain ⟨pB, oB, hL⟩ : Blk W w.heap.size #[.int .u64 t, .int .u64 a, .int .u64 r] 24 ∧ Blk W (w.heap.size + 1) #[.int .u64 0, .int .u64 0, .int .u64 0] 24 ∧ Below w.heap.size w W := by
    have h0 := Blk.new (w) #[.int .u64 t, .int .u64 a, .int .u64 r] 24
    have h1 := Blk.new (World.alloc (w) (.cells #[.int .u64 t, .int .u64 a, .int .u64 r] 24)) #[.int .u64 0, .int .u64 0, .int .u64 0] 24
    simp only [World.size_alloc] at h1
    subst hW
    exact ⟨(h0.alloc _), h1, (((Below.refl _ _).alloc (Nat.le_refl _) _).alloc (by simp only [World.size_alloc]; omega) _)⟩
  clear hW
  generalize hb_oB : w.heap.size + 1 = b_oB at *
  have lt_pB := pB.lt
  have lt_oB := oB.lt
  refine at_any ?_
  intro Y hY
  obtain ⟨pB', oB', hL'⟩ : Blk Y w.heap.size #[.int .u64 t, .int .u64 a, .int .u64 r] 24 ∧ Blk Y b_oB #[.int .u64 0, .int .u64 0, .int .u64 0] 24 ∧ Below w.heap.size w Y := by
    subst hY
    exact ⟨pB, oB, hL⟩
  clear hY pB oB hL
  clear lt_pB lt_oB
  have g0 := fun p : In (Lt Y) => inCell p (o := 0) (v := .int .u64 t) (pB'.cell 0)
  have g1 := fun p : In (Lt Y) => inCell p (o := 1) (v := .int .u64 a) (pB'.cell 1)
  have g2 := fun p : In (Lt Y) => inCell p (o := 2) (v := .int .u64 r) (pB'.cell 2)
  refine wp_region_rest (C := fun w' => ∃ p : In (Lt Y), w' = p.w) 14 1 (by kernel_rfl) (by kernel_rfl) (by kernel_rfl) (by kernel_rfl) (by kernel_rfl) ⟨⟨Y.drew, Lt.drew Y⟩, rfl⟩ ?_
  simp only [List.toList_toArray, List.take_succ_cons, List.take_zero]
  repeat (go_big_quiet_step (first | (go_at_call 22; refine in_same (v := .int .u64 fb) ?_; exact CF _) | (go_at_call 30; refine in_same (v := .int .u64 su) ?_; exact CS _) | (go_at_call 15; refine in_same (v := .int .u64 mu) ?_; exact CM _) | (go_at_call 23; refine in_same (v := .int .u64 ad) ?_; exact CA _)))
  refine wpQuiet_nil ?_
  rintro w5 ⟨⟨_, hw5⟩, rfl⟩
  have hw5 : Below Y.heap.size Y w5 := hw5
  clear g0 g1 g2 CF CS CM CA
  have pB5 := pB'.below hw5 pB'.lt
  have oB5 := oB'.below hw5 oB'.lt
  have hL5 := Base.next hL' hw5
  refine wpAny_of_held (S := fun _ => True) _ _ _ _ ?_
  refine held_st (i := 14) rfl (by kernel_rfl) (by kernel_rfl) (st_cell (.tmp 20) (.tmp 19) rfl (g := w.heap.size) (i := 0) (n := mn) (m := t) (by kernel_rfl) (by kernel_rfl) pB5 rfl) trivial ?_
  refine held_done (by kernel_rfl) ?_
  have pB : Blk (w5.setCell ⟨w.heap.size, 0, none⟩ (.int .u64 mn)) w.heap.size #[.int .u64 mn, .int .u64 a, .int .u64 r] 24 := pB5.set 0 _
  have oB : Blk (w5.setCell ⟨w.heap.size, 0, none⟩ (.int .u64 mn)) b_oB #[.int .u64 0, .int .u64 0, .int .u64 0] 24 := oB5.other (show b_oB ≠ w.heap.size by omega) _
  have hL : Below w.heap.size w (w5.setCell ⟨w.heap.size, 0, none⟩ (.int .u64 mn)) := hL5.setCell (Nat.le_refl _) _
  clear pB' oB' hL' pB5 oB5 hL5 hw5
  generalize w5.setCell ⟨w.heap.size, 0, none⟩ (.int .u64 mn) = W6 at *
  have lt_pB := pB.lt
  have pB_1 : _ = some (Value.int .u64 a) := pB.cell 1
  have pB_z1 := pB.free 1
  have lt_oB := oB.lt
  go_upto_region 3 with (refine wpl_value (v := .int .u64 mx) rfl (by rw [← HM.out]; exact mx_u64 (.tmp 22) (.tmp 23) _ (n := a) (m := now) rfl rfl rfl) ?_)
  refine at_any ?_
  intro X hX
  obtain ⟨pB', oB', hL'⟩ : Blk X w.heap.size #[.int .u64 mn, .int .u64 mx, .int .u64 r] 24 ∧ Blk X b_oB #[.int .u64 0, .int .u64 0, .int .u64 0] 24 ∧ Below w.heap.size w X := by
    subst hX
    exact ⟨pB.set 1 (.int .u64 mx), oB.other (show b_oB ≠ w.heap.size by omega) _, hL.setCell (show w.heap.size ≤ w.heap.size by omega) _⟩
  clear hX pB oB hL
  clear lt_pB pB_1 pB_z1 lt_oB
  have pB := pB'
  have oB := oB'
  have hL := hL'
  clear pB' oB' hL'
  have lt_pB := pB.lt
  have pB_0 : _ = some (Value.int .u64 mn) := pB.cell 0
  have pB_1 : _ = some (Value.int .u64 mx) := pB.cell 1
  have pB_2 : _ = some (Value.int .u64 r) := pB.cell 2
  have lt_oB := oB.lt
  go_wp2_with (refine wpl_store_row rfl 24 (.tmp 6) (.tmp 26) rfl oB #[.int .u64 mn, .int .u64 mx, .int .u64 r] rfl rfl (by kernel_rfl) rfl (by simp [Value.oneCell']) ?_)
  refine bodyPost_ret (results_cell_row rfl _ _ b_oB 24 #[.int .u64 mn, .int .u64 mx, .int .u64 r] (0, 0) _ rfl (oB.setRow _) Try.underlying24 rfl (by kernel_rfl)) rfl ?_
  exact ⟨rfl, below_setRow' hL (by omega)⟩
set_option maxHeartbeats 4000000 in
theorem ref_take (p : Pc) (hp : PFit p) (burst now size : Int) (hb : U burst) (hn : U now) (hs : U size) (w : World) :
    Calls Try.prog 9 #[.agg (pc p), .int .u64 burst, .int .u64 now, .int .u64 size] w fun e w' => e = .returned (.tuple #[.agg (pc (takeP p burst now size)), .bool (takeB p burst now size)]) ∧ Below w.heap.size w w' := by
  have CF := fun V => ref_fill p hp burst now hb hn V
  have hf := fit_fill hp hb hn
  have CM := fun V => Sat.ref_mul size 1000000 hs.1 hs.2 (by decide) (by decide) V
  have bM := mul_bd hs.1 (show (0 : Int) ≤ 1000000 by decide)
  unfold takeP
  cases hB : takeB p burst now size with
  | true =>
    rw [if_pos rfl]
    unfold takeB at hB
    generalize fillP p burst now = q at *
    generalize Sat.mul size 1000000 = nn at *
    obtain ⟨t, a, r⟩ := p
    obtain ⟨q0, q1, q2⟩ := q
    have hq := hf.tok
    unfold PcPost pc at CF
    unfold pc
    simp only [decide_eq_true_eq] at CF hB hq ⊢
    have hlt : ¬ q0 < nn := by omega
    unfold U at *
    go_enter Try.func9, Try.ntmps9
    go_upto_region 1 with fail
    refine at_any ?_
    intro W hW
    obtain ⟨pB, oB, hL⟩ : Blk W w.heap.size #[.int .u64 t, .int .u64 a, .int .u64 r] 24 ∧ Blk W (w.heap.size + 1) #[.int .u64 0, .int .u64 0, .int .u64 0] 24 ∧ Below w.heap.size w W := by
      have h0 := Blk.new (w) #[.int .u64 t, .int .u64 a, .int .u64 r] 24
      have h1 := Blk.new (World.alloc (w) (.cells #[.int .u64 t, .int .u64 a, .int .u64 r] 24)) #[.int .u64 0, .int .u64 0, .int .u64 0] 24
      simp only [World.size_alloc] at h1
      subst hW
      exact ⟨(h0.alloc _), h1, (((Below.refl _ _).alloc (Nat.le_refl _) _).alloc (by simp only [World.size_alloc]; omega) _)⟩
    clear hW
    generalize hb_oB : w.heap.size + 1 = b_oB at *
    have lt_pB := pB.lt
    have pB_0 : _ = some (Value.int .u64 t) := pB.cell 0
    have pB_1 : _ = some (Value.int .u64 a) := pB.cell 1
    have pB_2 : _ = some (Value.int .u64 r) := pB.cell 2
    have lt_oB := oB.lt
    go_upto_region 2 with (first | (go_at_call 18; refine (CF _).mono ?_; rintro x' y ⟨rfl, L1⟩; replace pB := pB.below L1 lt_pB; replace oB := oB.below L1 lt_oB; replace hL := Base.next hL L1; replace lt_pB := pB.lt; replace lt_oB := oB.lt) | (refine wpl_store_row rfl 24 (.tmp 4) (.tmp 14) rfl pB #[.int .u64 q0, .int .u64 q1, .int .u64 q2] rfl rfl (by kernel_rfl) rfl (by simp [Value.oneCell']) ?_))
    refine at_any ?_
    intro X hX
    obtain ⟨pB', oB', hL'⟩ : Blk X w.heap.size #[.int .u64 q0, .int .u64 q1, .int .u64 q2] 24 ∧ Blk X b_oB #[.int .u64 0, .int .u64 0, .int .u64 0] 24 ∧ Below w.heap.size w X := by
      subst hX
      exact ⟨pB.setRow _, oB.otherRow (show b_oB ≠ w.heap.size by omega) _, below_setRow' hL (show w.heap.size ≤ w.heap.size by omega)⟩
    clear hX pB oB hL
    clear lt_pB pB_0 pB_1 pB_2 lt_oB
    have pB := pB'
    have oB := oB'
    have hL := hL'
    clear pB' oB' hL'
    have lt_pB := pB.lt
    have pB_0 : _ = some (Value.int .u64 q0) := pB.cell 0
    have pB_1 : _ = some (Value.int .u64 q1) := pB.cell 1
    have pB_2 : _ = some (Value.int .u64 q2) := pB.cell 2
    have pB_z0 := pB.free 0
    have lt_oB := oB.lt
    go_upto_region 6 with (go_at_call 15; refine (CM _).mono ?_; rintro x' y ⟨rfl, rfl⟩)
    refine at_any ?_
    intro X hX
    obtain ⟨pB', oB', hL'⟩ : Blk X w.heap.size #[.int .u64 (q0 - nn), .int .u64 q1, .int .u64 q2] 24 ∧ Blk X b_oB #[.int .u64 0, .int .u64 0, .int .u64 0] 24 ∧ Below w.heap.size w X := by
      subst hX
      exact ⟨pB.set 0 (.int .u64 (q0 - nn)), oB.other (show b_oB ≠ w.heap.size by omega) _, hL.setCell (show w.heap.size ≤ w.heap.size by omega) _⟩
    clear hX pB oB hL
    clear lt_pB pB_0 pB_1 pB_2 pB_z0 lt_oB
    have pB := pB'
    have oB := oB'
    have hL := hL'
    clear pB' oB' hL'
    have lt_pB := pB.lt
    have pB_0 : _ = some (Value.int .u64 (q0 - nn)) := pB.cell 0
    have pB_1 : _ = some (Value.int .u64 q1) := pB.cell 1
    have pB_2 : _ = some (Value.int .u64 q2) := pB.cell 2
    have lt_oB := oB.lt
    go_wp2_with (refine wpl_store_row rfl 24 (.tmp 8) (.tmp 27) rfl oB #[.int .u64 (q0 - nn), .int .u64 q1, .int .u64 q2] rfl rfl (by kernel_rfl) rfl (by simp [Value.oneCell']) ?_)
    refine bodyPost_ret (Round.results_rowR rfl _ _ b_oB 24 #[.int .u64 (q0 - nn), .int .u64 q1, .int .u64 q2] _ rfl (oB.setRow _) Try.underlying24 rfl (by kernel_rfl)) rfl ?_
    exact ⟨rfl, below_setRow' hL (by omega)⟩
  | false =>
    rw [if_neg (by decide)]
    unfold takeB at hB
    generalize fillP p burst now = q at *
    generalize Sat.mul size 1000000 = nn at *
    obtain ⟨t, a, r⟩ := p
    obtain ⟨q0, q1, q2⟩ := q
    unfold PcPost pc at CF
    unfold pc
    simp only [decide_eq_false_iff_not] at CF hB ⊢
    have hlt : q0 < nn := by omega
    go_enter Try.func9, Try.ntmps9
    go_upto_region 1 with fail
    refine at_any ?_
    intro W hW
    obtain ⟨pB, oB, hL⟩ : Blk W w.heap.size #[.int .u64 t, .int .u64 a, .int .u64 r] 24 ∧ Blk W (w.heap.size + 1) #[.int .u64 0, .int .u64 0, .int .u64 0] 24 ∧ Below w.heap.size w W := by
      have h0 := Blk.new (w) #[.int .u64 t, .int .u64 a, .int .u64 r] 24
      have h1 := Blk.new (World.alloc (w) (.cells #[.int .u64 t, .int .u64 a, .int .u64 r] 24)) #[.int .u64 0, .int .u64 0, .int .u64 0] 24
      simp only [World.size_alloc] at h1
      subst hW
      exact ⟨(h0.alloc _), h1, (((Below.refl _ _).alloc (Nat.le_refl _) _).alloc (by simp only [World.size_alloc]; omega) _)⟩
    clear hW
    generalize hb_oB : w.heap.size + 1 = b_oB at *
    have lt_pB := pB.lt
    have pB_0 : _ = some (Value.int .u64 t) := pB.cell 0
    have pB_1 : _ = some (Value.int .u64 a) := pB.cell 1
    have pB_2 : _ = some (Value.int .u64 r) := pB.cell 2
    have lt_oB := oB.lt
    go_upto_region 2 with (first | (go_at_call 18; refine (CF _).mono ?_; rintro x' y ⟨rfl, L1⟩; replace pB := pB.below L1 lt_pB; replace oB := oB.below L1 lt_oB; replace hL := Base.next hL L1; replace lt_pB := pB.lt; replace lt_oB := oB.lt) | (refine wpl_store_row rfl 24 (.tmp 4) (.tmp 14) rfl pB #[.int .u64 q0, .int .u64 q1, .int .u64 q2] rfl rfl (by kernel_rfl) rfl (by simp [Value.oneCell']) ?_))
    refine at_any ?_
    intro X hX
    obtain ⟨pB', oB', hL'⟩ : Blk X w.heap.size #[.int .u64 q0, .int .u64 q1, .int .u64 q2] 24 ∧ Blk X b_oB #[.int .u64 0, .int .u64 0, .int .u64 0] 24 ∧ Below w.heap.size w X := by
      subst hX
      exact ⟨pB.setRow _, oB.otherRow (show b_oB ≠ w.heap.size by omega) _, below_setRow' hL (show w.heap.size ≤ w.heap.size by omega)⟩
    clear hX pB oB hL
    clear lt_pB pB_0 pB_1 pB_2 lt_oB
    have pB := pB'
    have oB := oB'
    have hL := hL'
    clear pB' oB' hL'
    have lt_pB := pB.lt
    have pB_0 : _ = some (Value.int .u64 q0) := pB.cell 0
    have pB_1 : _ = some (Value.int .u64 q1) := pB.cell 1
    have pB_2 : _ = some (Value.int .u64 q2) := pB.cell 2
    have pB_z0 := pB.free 0
    have lt_oB := oB.lt
    go_upto_region 4 with (go_at_call 15; refine (CM _).mono ?_; rintro x' y ⟨rfl, rfl⟩)
    go_wp2_with (refine wpl_store_row rfl 24 (.tmp 8) (.tmp 21) rfl oB #[.int .u64 q0, .int .u64 q1, .int .u64 q2] rfl rfl (by kernel_rfl) rfl (by simp [Value.oneCell']) ?_)
    refine bodyPost_ret (Round.results_rowR rfl _ _ b_oB 24 #[.int .u64 q0, .int .u64 q1, .int .u64 q2] _ rfl (oB.setRow _) Try.underlying24 rfl (by kernel_rfl)) rfl ?_
    exact ⟨rfl, below_setRow' hL (by omega)⟩
set_option maxHeartbeats 4000000 in
theorem ref_next (p : Pc) (hp : PFit p) (burst now size : Int) (hb : U burst) (hn : U now) (hs : U size) (w : World) :
    Calls Try.prog 11 #[.agg (pc p), .int .u64 burst, .int .u64 now, .int .u64 size] w fun e w' => e = .returned (.int .u64 (nextP p burst now size)) ∧ Below w.heap.size w w' := by
  have CF := fun V => ref_fill p hp burst now hb hn V
  have CU := fun V => ref_full burst hb V
  have hf := fit_fill hp hb hn
  have CM := fun V => Sat.ref_mul size 1000000 hs.1 hs.2 (by decide) (by decide) V
  have bM := mul_bd hs.1 (show (0 : Int) ≤ 1000000 by decide)
  have hr : (fillP p burst now).rate = p.rate := rfl
  unfold nextP takeB
  rw [← hr]
  clear hr
  generalize fillP p burst now = q at *
  generalize Sat.mul size 1000000 = nn at *
  generalize full burst = fb at *
  obtain ⟨t, a, r⟩ := p
  obtain ⟨q0, q1, q2⟩ := q
  obtain ⟨h0, h1, h2⟩ := hf
  unfold PcPost pc at CF
  unfold pc
  simp only [decide_eq_true_eq] at CF h0 h1 h2 ⊢
  by_cases c1 : nn ≤ q0
  · rw [if_pos c1]
    go_enter Try.func11, Try.ntmps11
    go_upto_region 1 with fail
    refine at_any ?_
    intro W hW
    obtain ⟨pB, hL⟩ : Blk W w.heap.size #[.int .u64 t, .int .u64 a, .int .u64 r] 24 ∧ Below w.heap.size w W := by
      subst hW
      exact ⟨Blk.new _ _ _, (Below.refl _ _).alloc (Nat.le_refl _) _⟩
    clear hW
    have lt_pB := pB.lt
    have pB_0 : _ = some (Value.int .u64 t) := pB.cell 0
    have pB_1 : _ = some (Value.int .u64 a) := pB.cell 1
    have pB_2 : _ = some (Value.int .u64 r) := pB.cell 2
    go_upto_region 2 with (first | (go_at_call 18; refine (CF _).mono ?_; rintro x' y ⟨rfl, L1⟩; replace pB := pB.below L1 lt_pB; replace hL := Base.next hL L1; replace lt_pB := pB.lt) | (refine wpl_store_row rfl 24 (.tmp 4) (.tmp 13) rfl pB #[.int .u64 q0, .int .u64 q1, .int .u64 q2] rfl rfl (by kernel_rfl) rfl (by simp [Value.oneCell']) ?_))
    refine at_any ?_
    intro X hX
    obtain ⟨pB', hL'⟩ : Blk X w.heap.size #[.int .u64 q0, .int .u64 q1, .int .u64 q2] 24 ∧ Below w.heap.size w X := by
      subst hX
      exact ⟨pB.setRow _, below_setRow' hL (show w.heap.size ≤ w.heap.size by omega)⟩
    clear hX pB hL
    clear lt_pB pB_0 pB_1 pB_2
    have pB := pB'
    have hL := hL'
    clear pB' hL'
    have lt_pB := pB.lt
    have pB_0 : _ = some (Value.int .u64 q0) := pB.cell 0
    have pB_1 : _ = some (Value.int .u64 q1) := pB.cell 1
    have pB_2 : _ = some (Value.int .u64 q2) := pB.cell 2
    go_wp2_with (first
      | (go_at_call 15; refine (CM _).mono ?_; rintro x' y ⟨rfl, rfl⟩)
      | (go_at_call 22; refine (CU _).mono ?_; rintro x' y ⟨rfl, rfl⟩))
    all_goals go_ret
    all_goals exact ⟨rfl, hL⟩
  · rw [if_neg c1]
    by_cases c2 : fb < nn
    · rw [if_pos (.inl c2)]
      go_enter Try.func11, Try.ntmps11
      go_upto_region 1 with fail
      refine at_any ?_
      intro W hW
      obtain ⟨pB, hL⟩ : Blk W w.heap.size #[.int .u64 t, .int .u64 a, .int .u64 r] 24 ∧ Below w.heap.size w W := by
        subst hW
        exact ⟨Blk.new _ _ _, (Below.refl _ _).alloc (Nat.le_refl _) _⟩
      clear hW
      have lt_pB := pB.lt
      have pB_0 : _ = some (Value.int .u64 t) := pB.cell 0
      have pB_1 : _ = some (Value.int .u64 a) := pB.cell 1
      have pB_2 : _ = some (Value.int .u64 r) := pB.cell 2
      go_upto_region 2 with (first | (go_at_call 18; refine (CF _).mono ?_; rintro x' y ⟨rfl, L1⟩; replace pB := pB.below L1 lt_pB; replace hL := Base.next hL L1; replace lt_pB := pB.lt) | (refine wpl_store_row rfl 24 (.tmp 4) (.tmp 13) rfl pB #[.int .u64 q0, .int .u64 q1, .int .u64 q2] rfl rfl (by kernel_rfl) rfl (by simp [Value.oneCell']) ?_))
      refine at_any ?_
      intro X hX
      obtain ⟨pB', hL'⟩ : Blk X w.heap.size #[.int .u64 q0, .int .u64 q1, .int .u64 q2] 24 ∧ Below w.heap.size w X := by
        subst hX
        exact ⟨pB.setRow _, below_setRow' hL (show w.heap.size ≤ w.heap.size by omega)⟩
      clear hX pB hL
      clear lt_pB pB_0 pB_1 pB_2
      have pB := pB'
      have hL := hL'
      clear pB' hL'
      have lt_pB := pB.lt
      have pB_0 : _ = some (Value.int .u64 q0) := pB.cell 0
      have pB_1 : _ = some (Value.int .u64 q1) := pB.cell 1
      have pB_2 : _ = some (Value.int .u64 q2) := pB.cell 2
      go_wp2_with (first
        | (go_at_call 15; refine (CM _).mono ?_; rintro x' y ⟨rfl, rfl⟩)
        | (go_at_call 22; refine (CU _).mono ?_; rintro x' y ⟨rfl, rfl⟩))
      all_goals go_ret
      all_goals exact ⟨rfl, hL⟩
    · by_cases c3 : q2 = 0
      · rw [if_pos (.inr c3)]
        subst c3
        go_enter Try.func11, Try.ntmps11
        go_upto_region 1 with fail
        refine at_any ?_
        intro W hW
        obtain ⟨pB, hL⟩ : Blk W w.heap.size #[.int .u64 t, .int .u64 a, .int .u64 r] 24 ∧ Below w.heap.size w W := by
          subst hW
          exact ⟨Blk.new _ _ _, (Below.refl _ _).alloc (Nat.le_refl _) _⟩
        clear hW
        have lt_pB := pB.lt
        have pB_0 : _ = some (Value.int .u64 t) := pB.cell 0
        have pB_1 : _ = some (Value.int .u64 a) := pB.cell 1
        have pB_2 : _ = some (Value.int .u64 r) := pB.cell 2
        go_upto_region 2 with (first | (go_at_call 18; refine (CF _).mono ?_; rintro x' y ⟨rfl, L1⟩; replace pB := pB.below L1 lt_pB; replace hL := Base.next hL L1; replace lt_pB := pB.lt) | (refine wpl_store_row rfl 24 (.tmp 4) (.tmp 13) rfl pB #[.int .u64 q0, .int .u64 q1, .int .u64 0] rfl rfl (by kernel_rfl) rfl (by simp [Value.oneCell']) ?_))
        refine at_any ?_
        intro X hX
        obtain ⟨pB', hL'⟩ : Blk X w.heap.size #[.int .u64 q0, .int .u64 q1, .int .u64 0] 24 ∧ Below w.heap.size w X := by
          subst hX
          exact ⟨pB.setRow _, below_setRow' hL (show w.heap.size ≤ w.heap.size by omega)⟩
        clear hX pB hL
        clear lt_pB pB_0 pB_1 pB_2
        have pB := pB'
        have hL := hL'
        clear pB' hL'
        have lt_pB := pB.lt
        have pB_0 : _ = some (Value.int .u64 q0) := pB.cell 0
        have pB_1 : _ = some (Value.int .u64 q1) := pB.cell 1
        have pB_2 : _ = some (Value.int .u64 0) := pB.cell 2
        go_wp2_with (first
          | (go_at_call 15; refine (CM _).mono ?_; rintro x' y ⟨rfl, rfl⟩)
          | (go_at_call 22; refine (CU _).mono ?_; rintro x' y ⟨rfl, rfl⟩))
        all_goals go_ret
        all_goals exact ⟨rfl, hL⟩
      · rw [if_neg (by omega)]
        have c3' : (q2 == 0) = false := by simpa using c3
        have CP := fun V => Wide.ref_up (nn - q0) 1 q2 (by omega) (by unfold U at *; omega) (by decide) (by decide) h2.1 h2.2 V
        have bP : U (Wide.up (nn - q0) 1 q2) := up_one (by omega) (by unfold U at *; omega) (by unfold U at *; omega)
        generalize Wide.up (nn - q0) 1 q2 = up at *
        have CA := fun V => Sat.ref_add q1 up h1.1 h1.2 bP.1 bP.2 V
        generalize Sat.add q1 up = ad at *
        have ew : IntKind.u64.wrap (nn - q0) = nn - q0 := by rw [IntKind.wrap_u64]; unfold U at *; omega
        go_enter Try.func11, Try.ntmps11
        go_upto_region 1 with fail
        refine at_any ?_
        intro W hW
        obtain ⟨pB, hL⟩ : Blk W w.heap.size #[.int .u64 t, .int .u64 a, .int .u64 r] 24 ∧ Below w.heap.size w W := by
          subst hW
          exact ⟨Blk.new _ _ _, (Below.refl _ _).alloc (Nat.le_refl _) _⟩
        clear hW
        have lt_pB := pB.lt
        have pB_0 : _ = some (Value.int .u64 t) := pB.cell 0
        have pB_1 : _ = some (Value.int .u64 a) := pB.cell 1
        have pB_2 : _ = some (Value.int .u64 r) := pB.cell 2
        go_upto_region 2 with (first | (go_at_call 18; refine (CF _).mono ?_; rintro x' y ⟨rfl, L1⟩; replace pB := pB.below L1 lt_pB; replace hL := Base.next hL L1; replace lt_pB := pB.lt) | (refine wpl_store_row rfl 24 (.tmp 4) (.tmp 13) rfl pB #[.int .u64 q0, .int .u64 q1, .int .u64 q2] rfl rfl (by kernel_rfl) rfl (by simp [Value.oneCell']) ?_))
        refine at_any ?_
        intro X hX
        obtain ⟨pB', hL'⟩ : Blk X w.heap.size #[.int .u64 q0, .int .u64 q1, .int .u64 q2] 24 ∧ Below w.heap.size w X := by
          subst hX
          exact ⟨pB.setRow _, below_setRow' hL (show w.heap.size ≤ w.heap.size by omega)⟩
        clear hX pB hL
        clear lt_pB pB_0 pB_1 pB_2
        have pB := pB'
        have hL := hL'
        clear pB' hL'
        have lt_pB := pB.lt
        have pB_0 : _ = some (Value.int .u64 q0) := pB.cell 0
        have pB_1 : _ = some (Value.int .u64 q1) := pB.cell 1
        have pB_2 : _ = some (Value.int .u64 q2) := pB.cell 2
        go_upto_region 7 with (first
          | (go_at_call 15; refine (CM _).mono ?_; rintro x' y ⟨rfl, rfl⟩)
          | (go_at_call 22; refine (CU _).mono ?_; rintro x' y ⟨rfl, rfl⟩))
        refine at_any ?_
        intro Y hY
        obtain ⟨pB', hL'⟩ : Blk Y w.heap.size #[.int .u64 q0, .int .u64 q1, .int .u64 q2] 24 ∧ Below w.heap.size w Y := by
          subst hY
          exact ⟨pB, hL⟩
        clear hY pB hL
        clear lt_pB pB_0 pB_1 pB_2
        have g0 := fun p : In (Lt Y) => inCell p (o := 0) (v := .int .u64 q0) (pB'.cell 0)
        have g1 := fun p : In (Lt Y) => inCell p (o := 1) (v := .int .u64 q1) (pB'.cell 1)
        have g2 := fun p : In (Lt Y) => inCell p (o := 2) (v := .int .u64 q2) (pB'.cell 2)
        refine wp_region_in (Lt Y) (Lt.drew Y) (by kernel_rfl) (by kernel_rfl) ?_
        repeat (go_big_quiet_step (first | (go_at_call 24; refine in_below (v := .int .u64 up) ?_; exact CP _) | (go_at_call 23; refine in_same (v := .int .u64 ad) ?_; exact CA _)))
        refine wpQuiet_nil ?_
        rintro u2 ⟨⟨_, hw2⟩, rfl⟩
        have hw2 : Below Y.heap.size Y u2 := hw2
        go_wp2
        go_ret
        exact ⟨rfl, Base.next hL' hw2⟩
end Go.Proofs.Ytbamdilihpnhjaa.Pacer
