/-
  Contracts of the program's token buckets: tokens, limited, wait, Start, Rate, Fill, Set, Take, Next.
-/
import Derived.Test.YtbamdilihpnhjaaPacerRef
import Derived.Test.YtbamdilihpnhjaaPacerFn
import Derived.Test.YtbamdilihpnhjaaClock
import Derived.Test.YtbamdilihpnhjaaWideRnd
set_option linter.unusedSimpArgs false
set_option linter.unusedVariables false
namespace Go.Proofs.Ytbamdilihpnhjaa.Pacer
set_option linter.unusedVariables false
set_option linter.unusedSimpArgs false
set_option maxRecDepth 20000
open Go.ChangeShapes Go.WideShapes Go.ChangeAt Go.RowKit
open Go.Proofs.Ytbamdilihpnhjaa.Base Go.Proofs.Ytbamdilihpnhjaa.RenoPlain Go.Proofs.Ytbamdilihpnhjaa.PacerPlain Go.Proofs.Ytbamdilihpnhjaa.Reno Go.Proofs.Ytbamdilihpnhjaa.Hop

theorem tokens_any (b : Int) (hb : U b) (w : World) : Calls Try.prog 17 #[.int .u64 b] w fun e w' => e = .returned (.int .u64 (full b)) ∧ w = w' := by
  have CM := fun V => Sat.mul_any b 1000000 hb.1 hb.2 (by decide) (by decide) V
  unfold full
  generalize Sat.mul b 1000000 = m at *
  go_enter Try.func17, Try.ntmps17
  go_wp2_with (go_at_call 26; refine (CM _).mono ?_; rintro x' y ⟨rfl, rfl⟩)
  go_ret
  exact ⟨rfl, rfl⟩

theorem limited_any (r : Int) (hr : U r) (w : World) : Calls Try.prog 28 #[.int .u64 r] w fun e w' => e = .returned (.int .u64 (min r 4294967296)) ∧ w = w' := by
  generalize hm : min r 4294967296 = m at *
  have hm := Lib.hid hm
  go_enter Try.func28, Try.ntmps28
  go_wp2_with (refine wpl_value (v := .int .u64 m) rfl (by rw [← hm.out]; exact mn_u64 (.tmp 3) _ _ (n := r) (m := 4294967296) rfl rfl rfl) ?_)
  go_ret
  exact ⟨rfl, rfl⟩
theorem wait_any (m r : Int) (hm : U m) (hr : U r) (w : World) : Calls Try.prog 20 #[.int .u64 m, .int .u64 r] w fun e w' => e = .returned (.int .u64 (waitP m r)) ∧ Below w.heap.size w w' := by
  have CU := fun V => Wide.up_any m 1 r hm.1 hm.2 (by decide) (by decide) hr.1 hr.2 V
  unfold waitP
  by_cases h : m = 0
  · subst h
    rw [if_pos rfl]
    go_enter Try.func20, Try.ntmps20
    go_wp2
    go_ret
    exact ⟨rfl, Below.refl _ _⟩
  · rw [if_neg h]
    have h' : (m == 0) = false := by simpa using h
    generalize Wide.up m 1 r = u at *
    go_enter Try.func20, Try.ntmps20
    go_wp2_with (go_at_call 31; refine (CU _).mono ?_; rintro e w1 ⟨rfl, L1⟩)
    go_ret
    exact ⟨rfl, L1⟩
set_option maxHeartbeats 1000000 in
theorem start_any (b n r : Int) (hb : U b) (hn : U n) (hr : U r) (w : World) :
    Calls Try.prog 13 #[.int .u64 b, .int .u64 n, .int .u64 r] w (PcPost w (startP b n r)) := by
  unfold PcPost
  have CF := fun V => tokens_any b hb V
  unfold startP pc
  simp only
  generalize full b = fb at *
  have CL := fun V => limited_any r hr V
  generalize min r 4294967296 = m at *
  go_enter Try.func13, Try.ntmps13
  go_upto_region 1 with fail
  have oB := Blk.new w #[.int .u64 0, .int .u64 0, .int .u64 0] 24
  have hL : Below w.heap.size w (w.alloc (.cells #[.int .u64 0, .int .u64 0, .int .u64 0] 24)) := (Below.refl _ _).alloc (Nat.le_refl _) _
  refine at_any ?_
  intro W hW
  rw [← show W = w.alloc (.cells #[.int .u64 0, .int .u64 0, .int .u64 0] 24) from hW] at oB hL
  clear hW
  go_wp2_with (first
    | (go_at_call 28; refine (CL _).mono ?_; rintro e w2 ⟨rfl, rfl⟩)
    | (go_at_call 17; refine (CF _).mono ?_; rintro e w1 ⟨rfl, rfl⟩)
    | (refine wpl_store_row rfl 24 (.tmp 6) (.tmp 12) rfl oB #[.int .u64 fb, .int .u64 n, .int .u64 m] rfl rfl (by kernel_rfl) rfl (by simp [Value.oneCell']) ?_))
  refine bodyPost_ret (results_cell_row rfl _ _ w.heap.size 24 #[.int .u64 fb, .int .u64 n, .int .u64 m] (0, 0) _ rfl (oB.setRow _) Try.underlying24 rfl (by kernel_rfl)) rfl ?_
  exact ⟨rfl, below_setRow' hL (Nat.le_refl _)⟩
set_option maxHeartbeats 4000000 in
theorem rate_any (c s l : Int) (hc : U c) (hs : U s) (hl : U l) (w : World) :
    Calls Try.prog 16 #[.int .u64 c, .int .u64 s, .int .u64 l] w fun e w' => e = .returned (.int .u64 (rateP c s l)) ∧ Below w.heap.size w w' := by
  have bM : U (max s 1) := by unfold U at *; omega
  have CD := fun V => Wide.down_any c 1250000 (max s 1) hc.1 hc.2 (by decide) (by decide) bM.1 bM.2 V
  have bD := down_bd (a := c) (b := 1250000) (d := max s 1) hc.1 (by decide) (by unfold U at *; omega)
  unfold rateP
  generalize Wide.down c 1250000 (max s 1) = d at *
  have CL := fun V => limited_any (max l d) (by unfold U at *; omega) V
  rw [show min 4294967296 (max l d) = min (max l d) 4294967296 by omega]
  generalize hr : min (max l d) 4294967296 = r at *
  clear hr
  generalize hm : max s 1 = m at *
  generalize hq : max l d = q at *
  have hm := Lib.hid hm
  have hq := Lib.hid (show max d l = q by omega)
  go_enter Try.func16, Try.ntmps16
  go_wp2_with (first
    | (refine wpl_value (v := .int .u64 m) rfl (by rw [← hm.out]; exact mx_u64 (.tmp 9) _ _ (n := s) (m := 1) rfl rfl rfl) ?_)
    | (refine wpl_value (v := .int .u64 q) rfl (by rw [← hq.out]; exact mx_u64 (.tmp 12) (.tmp 13) _ (n := d) (m := l) rfl rfl rfl) ?_)
    | (go_at_call 29; refine (CD _).mono ?_; rintro e w1 ⟨rfl, L1⟩)
    | (go_at_call 28; refine (CL _).mono ?_; rintro e w2 ⟨rfl, rfl⟩))
  all_goals go_ret
  all_goals exact ⟨rfl, L1⟩
set_option maxHeartbeats 4000000 in
theorem fill_any (p : Pc) (hp : PFit p) (burst now : Int) (hb : U burst) (hn : U now) (w : World) :
    Calls Try.prog 12 #[.agg (pc p), .int .u64 burst, .int .u64 now] w (PcPost w (fillP p burst now)) := by
  obtain ⟨hT, hA, hR⟩ := hp
  obtain ⟨t, a, r⟩ := p
  simp only at hT hA hR
  unfold PcPost fillP pc
  simp only
  have CF := fun V => tokens_any burst hb V
  have bF := full_bd hb.1
  generalize full burst = fb at *
  have CS := fun V => Clock.since_any now a hn.1 hn.2 hA.1 hA.2 V
  have bS := Sat.sub_bd (a := now) (b := a) hA.1 hn.2
  generalize Sat.sub now a = su at *
  have CM := fun V => Sat.mul_any r su hR.1 hR.2 bS.1 bS.2 V
  have bM := mul_bd hR.1 bS.1
  generalize Sat.mul r su = mu at *
  have CA := fun V => Sat.add_any t mu hT.1 hT.2 bM.1 bM.2 V
  generalize Sat.add t mu = ad at *
  have m1 : (if ad < fb then ad else fb) = min fb ad := by split <;> omega
  have eMn : min ad fb = min fb ad := by omega
  generalize min fb ad = mn at *
  generalize hmx : max a now = mx at *
  have HM := Lib.hid hmx
  clear hmx
  go_enter Try.func12, Try.ntmps12
  go_upto_region 1 with fail
  refine at_any ?_
  intro W hW
  obtain ⟨pB, oB, hL⟩ : Blk W w.heap.size #[.int .u64 t, .int .u64 a, .int .u64 r] 24 ∧ Blk W (w.heap.size + 1) #[.int .u64 0, .int .u64 0, .int .u64 0] 24 ∧ Below w.heap.size w W := by
    have h0 := Blk.new (w) #[.int .u64 t, .int .u64 a, .int .u64 r] 24
    have h1 := Blk.new (World.alloc (w) (.cells #[.int .u64 t, .int .u64 a, .int .u64 r] 24)) #[.int .u64 0, .int .u64 0, .int .u64 0] 24
    simp only [World.size_alloc] at h1
    subst hW
    exact ⟨(h0.alloc _), h1, (((Below.refl _ _).alloc (Nat.le_refl _) _).alloc (by simp only [World.size_alloc]; omega) _)⟩
  clear hW
  generalize hb_oB : w.heap.size + 1 = b_oB at *
  have lt_pB := pB.lt
  have lt_oB := oB.lt
  refine at_any ?_
  intro Y hY
  obtain ⟨pB', oB', hL'⟩ : Blk Y w.heap.size #[.int .u64 t, .int .u64 a, .int .u64 r] 24 ∧ Blk Y b_oB #[.int .u64 0, .int .u64 0, .int .u64 0] 24 ∧ Below w.heap.size w Y := by
    subst hY
    exact ⟨pB, oB, hL⟩
  clear hY pB oB hL
  clear lt_pB lt_oB
  have g0 := fun p : In (Lt Y) => inCell p (o := 0) (v := .int .u64 t) (pB'.cell 0)
  have g1 := fun p : In (Lt Y) => inCell p (o := 1) (v := .int .u64 a) (pB'.cell 1)
  have g2 := fun p : In (Lt Y) => inCell p (o := 2) (v := .int .u64 r) (pB'.cell 2)
  refine wp_region_rest (C := fun w' => ∃ p : In (Lt Y), w' = p.w) 14 1 (by kernel_rfl) (by kernel_rfl) (by kernel_rfl) (by kernel_rfl) (by kernel_rfl) ⟨⟨Y.drew, Lt.drew Y⟩, rfl⟩ ?_
  simp only [List.toList_toArray, List.take_succ_cons, List.take_zero]
  repeat (go_big_quiet_step (first | (go_at_call 17; refine in_same (v := .int .u64 fb) ?_; exact CF _) | (go_at_call 27; refine in_same (v := .int .u64 su) ?_; exact CS _) | (go_at_call 26; refine in_same (v := .int .u64 mu) ?_; exact CM _) | (go_at_call 25; refine in_same (v := .int .u64 ad) ?_; exact CA _)))
  refine wpQuiet_nil ?_
  rintro w5 ⟨⟨_, hw5⟩, rfl⟩
  have hw5 : Below Y.heap.size Y w5 := hw5
  clear g0 g1 g2 CF CS CM CA
  have pB5 := pB'.below hw5 pB'.lt
  have oB5 := oB'.below hw5 oB'.lt
  have hL5 := Base.next hL' hw5
  refine wpAny_of_held (S := fun _ => True) _ _ _ _ ?_
  refine held_st (i := 14) rfl (by kernel_rfl) (by kernel_rfl) (st_cell (.tmp 20) (.tmp 19) rfl (g := w.heap.size) (i := 0) (n := mn) (m := t) (by kernel_rfl) (by kernel_rfl) pB5 rfl) trivial ?_
  refine held_done (by kernel_rfl) ?_
  have pB : Blk (w5.setCell ⟨w.heap.size, 0, none⟩ (.int .u64 mn)) w.heap.size #[.int .u64 mn, .int .u64 a, .int .u64 r] 24 := pB5.set 0 _
  have oB : Blk (w5.setCell ⟨w.heap.size, 0, none⟩ (.int .u64 mn)) b_oB #[.int .u64 0, .int .u64 0, .int .u64 0] 24 := oB5.other (show b_oB ≠ w.heap.size by omega) _
  have hL : Below w.heap.size w (w5.setCell ⟨w.heap.size, 0, none⟩ (.int .u64 mn)) := hL5.setCell (Nat.le_refl _) _
  clear pB' oB' hL' pB5 oB5 hL5 hw5
  generalize w5.setCell ⟨w.heap.size, 0, none⟩ (.int .u64 mn) = W6 at *
  have lt_pB := pB.lt
  have pB_1 : _ = some (Value.int .u64 a) := pB.cell 1
  have pB_z1 := pB.free 1
  have lt_oB := oB.lt
  go_upto_region 3 with (refine wpl_value (v := .int .u64 mx) rfl (by rw [← HM.out]; exact mx_u64 (.tmp 22) (.tmp 23) _ (n := a) (m := now) rfl rfl rfl) ?_)
  refine at_any ?_
  intro X hX
  obtain ⟨pB', oB', hL'⟩ : Blk X w.heap.size #[.int .u64 mn, .int .u64 mx, .int .u64 r] 24 ∧ Blk X b_oB #[.int .u64 0, .int .u64 0, .int .u64 0] 24 ∧ Below w.heap.size w X := by
    subst hX
    exact ⟨pB.set 1 (.int .u64 mx), oB.other (show b_oB ≠ w.heap.size by omega) _, hL.setCell (show w.heap.size ≤ w.heap.size by omega) _⟩
  clear hX pB oB hL
  clear lt_pB pB_1 pB_z1 lt_oB
  have pB := pB'
  have oB := oB'
  have hL := hL'
  clear pB' oB' hL'
  have lt_pB := pB.lt
  have pB_0 : _ = some (Value.int .u64 mn) := pB.cell 0
  have pB_1 : _ = some (Value.int .u64 mx) := pB.cell 1
  have pB_2 : _ = some (Value.int .u64 r) := pB.cell 2
  have lt_oB := oB.lt
  go_wp2_with (refine wpl_store_row rfl 24 (.tmp 6) (.tmp 26) rfl oB #[.int .u64 mn, .int .u64 mx, .int .u64 r] rfl rfl (by kernel_rfl) rfl (by simp [Value.oneCell']) ?_)
  refine bodyPost_ret (results_cell_row rfl _ _ b_oB 24 #[.int .u64 mn, .int .u64 mx, .int .u64 r] (0, 0) _ rfl (oB.setRow _) Try.underlying24 rfl (by kernel_rfl)) rfl ?_
  exact ⟨rfl, below_setRow' hL (by omega)⟩
set_option maxHeartbeats 1000000 in
theorem set_any (p : Pc) (hp : PFit p) (burst now rate : Int) (hb : U burst) (hn : U now) (hr : U rate) (w : World) :
    Calls Try.prog 14 #[.agg (pc p), .int .u64 burst, .int .u64 now, .int .u64 rate] w (PcPost w (setP p burst now rate)) := by
  unfold PcPost
  have CF := fun V => fill_any p hp burst now hb hn V
  have CL := fun V => limited_any rate hr V
  obtain ⟨t, a, r⟩ := p
  unfold setP
  generalize fillP ⟨t, a, r⟩ burst now = f at *
  obtain ⟨f0, f1, f2⟩ := f
  unfold PcPost at CF
  unfold pc at *
  simp only at CF ⊢
  generalize min rate 4294967296 = m at *
  go_enter Try.func14, Try.ntmps14
  go_upto_region 1 with fail
  refine at_any ?_
  intro W hW
  obtain ⟨pB, oB, hL⟩ : Blk W w.heap.size #[.int .u64 t, .int .u64 a, .int .u64 r] 24 ∧ Blk W (w.heap.size + 1) #[.int .u64 0, .int .u64 0, .int .u64 0] 24 ∧ Below w.heap.size w W := by
    have h0 := Blk.new (w) #[.int .u64 t, .int .u64 a, .int .u64 r] 24
    have h1 := Blk.new (World.alloc (w) (.cells #[.int .u64 t, .int .u64 a, .int .u64 r] 24)) #[.int .u64 0, .int .u64 0, .int .u64 0] 24
    simp only [World.size_alloc] at h1
    subst hW
    exact ⟨(h0.alloc _), h1, (((Below.refl _ _).alloc (Nat.le_refl _) _).alloc (by simp only [World.size_alloc]; omega) _)⟩
  clear hW
  generalize hb_oB : w.heap.size + 1 = b_oB at *
  have p0 : W.cell? ⟨w.heap.size, 0, none⟩ = some (.int .u64 t) := pB.cell 0
  have p1 : W.cell? ⟨w.heap.size, 1, none⟩ = some (.int .u64 a) := pB.cell 1
  have p2 : W.cell? ⟨w.heap.size, 2, none⟩ = some (.int .u64 r) := pB.cell 2
  go_upto_region 2 with (first
    | (go_at_call 12; refine (CF _).mono ?_; rintro e w1 ⟨rfl, L1⟩; have pB1 := pB.below L1 pB.lt; have oB1 := oB.below L1 oB.lt)
    | (refine wpl_store_row rfl 24 (.tmp 4) (.tmp 12) rfl pB1 #[.int .u64 f0, .int .u64 f1, .int .u64 f2] rfl rfl (by kernel_rfl) rfl (by simp [Value.oneCell']) ?_))
  refine at_any ?_
  intro Y hY
  obtain ⟨pB', oB', hL'⟩ : Blk Y w.heap.size #[.int .u64 f0, .int .u64 f1, .int .u64 f2] 24 ∧ Blk Y b_oB #[.int .u64 0, .int .u64 0, .int .u64 0] 24 ∧ Below w.heap.size w Y := by
    subst hY
    exact ⟨pB1.setRow _, oB1.otherRow (show b_oB ≠ w.heap.size by omega) _, below_setRow' (Base.next hL L1) (Nat.le_refl _)⟩
  clear hY pB oB hL pB1 oB1 L1 p0 p1 p2
  have q2 : Y.cell? ⟨w.heap.size, 2, none⟩ = some (.int .u64 f2) := pB'.cell 2
  have z2 := pB'.free 2
  go_upto_region 3 with (go_at_call 28; refine (CL _).mono ?_; rintro e w2 ⟨rfl, rfl⟩)
  refine at_any ?_
  intro X hX
  obtain ⟨pB, oB, hL⟩ : Blk X w.heap.size #[.int .u64 f0, .int .u64 f1, .int .u64 m] 24 ∧ Blk X b_oB #[.int .u64 0, .int .u64 0, .int .u64 0] 24 ∧ Below w.heap.size w X := by
    subst hX
    exact ⟨pB'.set 2 (.int .u64 m), oB'.other (show b_oB ≠ w.heap.size by omega) _, hL'.setCell (show w.heap.size ≤ w.heap.size by omega) _⟩
  clear hX pB' oB' hL' q2 z2
  have q0 : X.cell? ⟨w.heap.size, 0, none⟩ = some (.int .u64 f0) := pB.cell 0
  have q1 : X.cell? ⟨w.heap.size, 1, none⟩ = some (.int .u64 f1) := pB.cell 1
  have q2 : X.cell? ⟨w.heap.size, 2, none⟩ = some (.int .u64 m) := pB.cell 2
  go_wp2_with (refine wpl_store_row rfl 24 (.tmp 8) (.tmp 16) rfl oB #[.int .u64 f0, .int .u64 f1, .int .u64 m] rfl rfl (by kernel_rfl) rfl (by simp [Value.oneCell']) ?_)
  refine bodyPost_ret (results_cell_row rfl _ _ b_oB 24 #[.int .u64 f0, .int .u64 f1, .int .u64 m] (0, 0) _ rfl (oB.setRow _) Try.underlying24 rfl (by kernel_rfl)) rfl ?_
  exact ⟨rfl, below_setRow' hL (by omega)⟩
set_option maxHeartbeats 4000000 in
theorem take_any (p : Pc) (hp : PFit p) (burst now size : Int) (hb : U burst) (hn : U now) (hs : U size) (w : World) :
    Calls Try.prog 8 #[.agg (pc p), .int .u64 burst, .int .u64 now, .int .u64 size] w fun e w' => e = .returned (.tuple #[.agg (pc (takeP p burst now size)), .bool (takeB p burst now size)]) ∧ Below w.heap.size w w' := by
  have CF := fun V => fill_any p hp burst now hb hn V
  have hf := fit_fill hp hb hn
  have CM := fun V => tokens_any size hs V
  rw [show full size = Sat.mul size 1000000 from rfl] at CM
  have bM := mul_bd hs.1 (show (0 : Int) ≤ 1000000 by decide)
  unfold takeP
  cases hB : takeB p burst now size with
  | true =>
    rw [if_pos rfl]
    unfold takeB at hB
    generalize fillP p burst now = q at *
    generalize Sat.mul size 1000000 = nn at *
    obtain ⟨t, a, r⟩ := p
    obtain ⟨q0, q1, q2⟩ := q
    have hq := hf.tok
    unfold PcPost pc at CF
    unfold pc
    simp only [decide_eq_true_eq] at CF hB hq ⊢
    have hlt : ¬ q0 < nn := by omega
    unfold U at *
    go_enter Try.func8, Try.ntmps8
    go_upto_region 1 with fail
    refine at_any ?_
    intro W hW
    obtain ⟨pB, oB, hL⟩ : Blk W w.heap.size #[.int .u64 t, .int .u64 a, .int .u64 r] 24 ∧ Blk W (w.heap.size + 1) #[.int .u64 0, .int .u64 0, .int .u64 0] 24 ∧ Below w.heap.size w W := by
      have h0 := Blk.new (w) #[.int .u64 t, .int .u64 a, .int .u64 r] 24
      have h1 := Blk.new (World.alloc (w) (.cells #[.int .u64 t, .int .u64 a, .int .u64 r] 24)) #[.int .u64 0, .int .u64 0, .int .u64 0] 24
      simp only [World.size_alloc] at h1
      subst hW
      exact ⟨(h0.alloc _), h1, (((Below.refl _ _).alloc (Nat.le_refl _) _).alloc (by simp only [World.size_alloc]; omega) _)⟩
    clear hW
    generalize hb_oB : w.heap.size + 1 = b_oB at *
    have lt_pB := pB.lt
    have pB_0 : _ = some (Value.int .u64 t) := pB.cell 0
    have pB_1 : _ = some (Value.int .u64 a) := pB.cell 1
    have pB_2 : _ = some (Value.int .u64 r) := pB.cell 2
    have lt_oB := oB.lt
    go_upto_region 2 with (first | (go_at_call 12; refine (CF _).mono ?_; rintro x' y ⟨rfl, L1⟩; replace pB := pB.below L1 lt_pB; replace oB := oB.below L1 lt_oB; replace hL := Base.next hL L1; replace lt_pB := pB.lt; replace lt_oB := oB.lt) | (refine wpl_store_row rfl 24 (.tmp 4) (.tmp 14) rfl pB #[.int .u64 q0, .int .u64 q1, .int .u64 q2] rfl rfl (by kernel_rfl) rfl (by simp [Value.oneCell']) ?_))
    refine at_any ?_
    intro X hX
    obtain ⟨pB', oB', hL'⟩ : Blk X w.heap.size #[.int .u64 q0, .int .u64 q1, .int .u64 q2] 24 ∧ Blk X b_oB #[.int .u64 0, .int .u64 0, .int .u64 0] 24 ∧ Below w.heap.size w X := by
      subst hX
      exact ⟨pB.setRow _, oB.otherRow (show b_oB ≠ w.heap.size by omega) _, below_setRow' hL (show w.heap.size ≤ w.heap.size by omega)⟩
    clear hX pB oB hL
    clear lt_pB pB_0 pB_1 pB_2 lt_oB
    have pB := pB'
    have oB := oB'
    have hL := hL'
    clear pB' oB' hL'
    have lt_pB := pB.lt
    have pB_0 : _ = some (Value.int .u64 q0) := pB.cell 0
    have pB_1 : _ = some (Value.int .u64 q1) := pB.cell 1
    have pB_2 : _ = some (Value.int .u64 q2) := pB.cell 2
    have pB_z0 := pB.free 0
    have lt_oB := oB.lt
    go_upto_region 6 with (go_at_call 17; refine (CM _).mono ?_; rintro x' y ⟨rfl, rfl⟩)
    refine at_any ?_
    intro X hX
    obtain ⟨pB', oB', hL'⟩ : Blk X w.heap.size #[.int .u64 (q0 - nn), .int .u64 q1, .int .u64 q2] 24 ∧ Blk X b_oB #[.int .u64 0, .int .u64 0, .int .u64 0] 24 ∧ Below w.heap.size w X := by
      subst hX
      exact ⟨pB.set 0 (.int .u64 (q0 - nn)), oB.other (show b_oB ≠ w.heap.size by omega) _, hL.setCell (show w.heap.size ≤ w.heap.size by omega) _⟩
    clear hX pB oB hL
    clear lt_pB pB_0 pB_1 pB_2 pB_z0 lt_oB
    have pB := pB'
    have oB := oB'
    have hL := hL'
    clear pB' oB' hL'
    have lt_pB := pB.lt
    have pB_0 : _ = some (Value.int .u64 (q0 - nn)) := pB.cell 0
    have pB_1 : _ = some (Value.int .u64 q1) := pB.cell 1
    have pB_2 : _ = some (Value.int .u64 q2) := pB.cell 2
    have lt_oB := oB.lt
    go_wp2_with (refine wpl_store_row rfl 24 (.tmp 8) (.tmp 27) rfl oB #[.int .u64 (q0 - nn), .int .u64 q1, .int .u64 q2] rfl rfl (by kernel_rfl) rfl (by simp [Value.oneCell']) ?_)
    refine bodyPost_ret (Round.results_rowR rfl _ _ b_oB 24 #[.int .u64 (q0 - nn), .int .u64 q1, .int .u64 q2] _ rfl (oB.setRow _) Try.underlying24 rfl (by kernel_rfl)) rfl ?_
    exact ⟨rfl, below_setRow' hL (by omega)⟩
  | false =>
    rw [if_neg (by decide)]
    unfold takeB at hB
    generalize fillP p burst now = q at *
    generalize Sat.mul size 1000000 = nn at *
    obtain ⟨t, a, r⟩ := p
    obtain ⟨q0, q1, q2⟩ := q
    unfold PcPost pc at CF
    unfold pc
    simp only [decide_eq_false_iff_not] at CF hB ⊢
    have hlt : q0 < nn := by omega
    go_enter Try.func8, Try.ntmps8
    go_upto_region 1 with fail
    refine at_any ?_
    intro W hW
    obtain ⟨pB, oB, hL⟩ : Blk W w.heap.size #[.int .u64 t, .int .u64 a, .int .u64 r] 24 ∧ Blk W (w.heap.size + 1) #[.int .u64 0, .int .u64 0, .int .u64 0] 24 ∧ Below w.heap.size w W := by
      have h0 := Blk.new (w) #[.int .u64 t, .int .u64 a, .int .u64 r] 24
      have h1 := Blk.new (World.alloc (w) (.cells #[.int .u64 t, .int .u64 a, .int .u64 r] 24)) #[.int .u64 0, .int .u64 0, .int .u64 0] 24
      simp only [World.size_alloc] at h1
      subst hW
      exact ⟨(h0.alloc _), h1, (((Below.refl _ _).alloc (Nat.le_refl _) _).alloc (by simp only [World.size_alloc]; omega) _)⟩
    clear hW
    generalize hb_oB : w.heap.size + 1 = b_oB at *
    have lt_pB := pB.lt
    have pB_0 : _ = some (Value.int .u64 t) := pB.cell 0
    have pB_1 : _ = some (Value.int .u64 a) := pB.cell 1
    have pB_2 : _ = some (Value.int .u64 r) := pB.cell 2
    have lt_oB := oB.lt
    go_upto_region 2 with (first | (go_at_call 12; refine (CF _).mono ?_; rintro x' y ⟨rfl, L1⟩; replace pB := pB.below L1 lt_pB; replace oB := oB.below L1 lt_oB; replace hL := Base.next hL L1; replace lt_pB := pB.lt; replace lt_oB := oB.lt) | (refine wpl_store_row rfl 24 (.tmp 4) (.tmp 14) rfl pB #[.int .u64 q0, .int .u64 q1, .int .u64 q2] rfl rfl (by kernel_rfl) rfl (by simp [Value.oneCell']) ?_))
    refine at_any ?_
    intro X hX
    obtain ⟨pB', oB', hL'⟩ : Blk X w.heap.size #[.int .u64 q0, .int .u64 q1, .int .u64 q2] 24 ∧ Blk X b_oB #[.int .u64 0, .int .u64 0, .int .u64 0] 24 ∧ Below w.heap.size w X := by
      subst hX
      exact ⟨pB.setRow _, oB.otherRow (show b_oB ≠ w.heap.size by omega) _, below_setRow' hL (show w.heap.size ≤ w.heap.size by omega)⟩
    clear hX pB oB hL
    clear lt_pB pB_0 pB_1 pB_2 lt_oB
    have pB := pB'
    have oB := oB'
    have hL := hL'
    clear pB' oB' hL'
    have lt_pB := pB.lt
    have pB_0 : _ = some (Value.int .u64 q0) := pB.cell 0
    have pB_1 : _ = some (Value.int .u64 q1) := pB.cell 1
    have pB_2 : _ = some (Value.int .u64 q2) := pB.cell 2
    have pB_z0 := pB.free 0
    have lt_oB := oB.lt
    go_upto_region 4 with (go_at_call 17; refine (CM _).mono ?_; rintro x' y ⟨rfl, rfl⟩)
    go_wp2_with (refine wpl_store_row rfl 24 (.tmp 8) (.tmp 21) rfl oB #[.int .u64 q0, .int .u64 q1, .int .u64 q2] rfl rfl (by kernel_rfl) rfl (by simp [Value.oneCell']) ?_)
    refine bodyPost_ret (Round.results_rowR rfl _ _ b_oB 24 #[.int .u64 q0, .int .u64 q1, .int .u64 q2] _ rfl (oB.setRow _) Try.underlying24 rfl (by kernel_rfl)) rfl ?_
    exact ⟨rfl, below_setRow' hL (by omega)⟩
set_option maxHeartbeats 4000000 in
theorem next_any (p : Pc) (hp : PFit p) (burst now size : Int) (hb : U burst) (hn : U now) (hs : U size) (w : World) :
    Calls Try.prog 10 #[.agg (pc p), .int .u64 burst, .int .u64 now, .int .u64 size] w fun e w' => e = .returned (.int .u64 (nextP p burst now size)) ∧ Below w.heap.size w w' := by
  rw [next_prog hp hb hn hs]
  have CS := fun V => tokens_any size hs V
  have CB := fun V => tokens_any burst hb V
  have bS := full_bd hs.1
  have bB := full_bd hb.1
  obtain ⟨ht, ha, hr⟩ := hp
  obtain ⟨t, a, r⟩ := p
  simp only at ht ha hr
  unfold pc
  simp only
  generalize full size = N at *
  generalize full burst = F at *
  by_cases c : F < N
  · rw [if_pos c]
    go_enter Try.func10, Try.ntmps10
    go_wp2_with (first
      | (go_at_call 17; (with_reducible refine (CS _).mono ?_); rintro e w1 ⟨rfl, rfl⟩)
      | (go_at_call 17; (with_reducible refine (CB _).mono ?_); rintro e w1 ⟨rfl, rfl⟩))
    go_ret
    exact ⟨rfl, (Below.refl _ _).alloc (Nat.le_refl _) _⟩
  · rw [if_neg c]
    have CU := fun V => Sat.sub_any N t bS.1 bS.2 ht.1 ht.2 V
    have bU : U (Sat.sub N t) := Sat.sub_bd (a := N) (b := t) ht.1 bS.2
    generalize Sat.sub N t = m at *
    have CW := fun V => wait_any m r bU hr V
    have bW := wait_bd bU hr
    generalize waitP m r = k at *
    have CA := fun V => Clock.after_any a k ha.1 ha.2 bW.1 bW.2 V
    generalize Sat.add a k = q at *
    have e1 : (if q > now then q else now) = max now q := by split <;> omega
    have e2 : (if now < q then q else now) = max now q := by split <;> omega
    have e3 : (if now > q then now else q) = max now q := by split <;> omega
    generalize hz : max now q = z at *
    go_enter Try.func10, Try.ntmps10
    go_upto_region 4 with (first
      | (go_at_call 17; (with_reducible refine (CS _).mono ?_); rintro e w1 ⟨rfl, rfl⟩)
      | (go_at_call 17; (with_reducible refine (CB _).mono ?_); rintro e w1 ⟨rfl, rfl⟩))
    refine at_any ?_
    intro Y hY
    obtain ⟨pB', hL'⟩ : Blk Y w.heap.size #[.int .u64 t, .int .u64 a, .int .u64 r] 24 ∧ Below w.heap.size w Y := by
      subst hY
      exact ⟨Blk.new _ _ _, (Below.refl _ _).alloc (Nat.le_refl _) _⟩
    clear hY
    have g0 := fun p : In (Lt Y) => inCell p (o := 0) (v := .int .u64 t) (pB'.cell 0)
    have g1 := fun p : In (Lt Y) => inCell p (o := 1) (v := .int .u64 a) (pB'.cell 1)
    have g2 := fun p : In (Lt Y) => inCell p (o := 2) (v := .int .u64 r) (pB'.cell 2)
    refine wp_region_in (Lt Y) (Lt.drew Y) (by kernel_rfl) (by kernel_rfl) ?_
    repeat (go_big_quiet_step (first | (go_at_call 21; refine in_same (v := .int .u64 m) ?_; exact CU _) | (go_at_call 20; refine in_below (v := .int .u64 k) ?_; exact CW _) | (go_at_call 19; refine in_same (v := .int .u64 q) ?_; exact CA _)))
    refine wpQuiet_nil ?_
    rintro u2 ⟨⟨_, hw2⟩, rfl⟩
    have hw2 : Below Y.heap.size Y u2 := hw2
    go_wp2
    go_ret
    exact ⟨rfl, Base.next hL' hw2⟩
end Go.Proofs.Ytbamdilihpnhjaa.Pacer
