/-
  Contracts of the reference's CUBIC windows: Long, At, GrowCubic, CutCubic.
-/
import Derived.Test.YtnnpklnhdfpnjaaCubicPlain
import Derived.Test.YtnnpklnhdfpnjaaRenoRef
import Derived.Test.YtnnpklnhdfpnjaaRootCube
set_option linter.unusedSimpArgs false
set_option linter.unusedVariables false
namespace Go.Proofs.Ytnnpklnhdfpnjaa.Cubic
set_option linter.unusedVariables false
set_option maxRecDepth 20000
open Go.ChangeShapes Go.WideShapes Go.ChangeAt Go.RowKit
open Go.Proofs.Ytnnpklnhdfpnjaa.Base Go.Proofs.Ytnnpklnhdfpnjaa.RenoPlain Go.Proofs.Ytnnpklnhdfpnjaa.CubicPlain Go.Proofs.Ytnnpklnhdfpnjaa.Reno Go.Proofs.Ytnnpklnhdfpnjaa.Hop

theorem two_div {X m B : Int} (hm : 0 < m) (hB : 0 < B) : X / B / m * B + (X / B % m * B + X % B) / m = X / m := by
  have e1 := Int.mul_ediv_add_emod X B
  have e2 := Int.mul_ediv_add_emod (X / B) m
  have e3 : X = X / B / m * B * m + (X / B % m * B + X % B) := by
    generalize X / B = hi at *
    generalize X % B = lo at *
    generalize hi / m = q at *
    generalize hi % m = r at *
    subst e1
    subst e2
    grind
  have e4 : X / m = (X / B / m * B * m + (X / B % m * B + X % B)) / m := by rw [← e3]
  rw [e4, Int.add_comm (X / B / m * B * m), Int.add_mul_ediv_right _ _ (by omega), Int.add_comm]
theorem ref_at (peak k t mss : Int) (hP : U peak) (hK : U k) (ht : U t) (hm : U mss) (w : World) :
    Calls Try.prog 46 #[.int .u64 peak, .int .u64 k, .int .u64 t, .int .u64 mss] w fun e w' => e = .returned (.int .u64 (atC peak k t mss)) ∧ Below w.heap.size w w' := by
  have C1 := fun V => Sat.ref_diff t k ht.1 ht.2 hK.1 hK.2 V
  have b1 := Sat.diff_bd ht.1 hK.1 ht.2 hK.2
  unfold atC atZ
  generalize Sat.diff t k = d at *
  have C2 := fun V => Wide.ref_down d d 1000000 b1.1 b1.2 b1.1 b1.2 (by decide) (by decide) V
  have b2 := down_bd (d := 1000000) b1.1 b1.1 (by decide)
  generalize Wide.down d d 1000000 = x at *
  have C3 := fun V => Wide.ref_down x d 1000000 b2.1 b2.2 b1.1 b1.2 (by decide) (by decide) V
  have b3 := down_bd (d := 1000000) b2.1 b1.1 (by decide)
  generalize Wide.down x d 1000000 = y at *
  have C4 := fun V => Sat.ref_mul 2 mss (by decide) (by decide) hm.1 hm.2 V
  have b4 := mul_bd (show (0 : Int) ≤ 2 by decide) hm.1
  generalize Sat.mul 2 mss = mm at *
  have C5 := fun V => Wide.ref_down y mm 5000000 b3.1 b3.2 b4.1 b4.2 (by decide) (by decide) V
  have b5 := down_bd (d := 5000000) b3.1 b4.1 (by decide)
  generalize Wide.down y mm 5000000 = z at *
  have C6 := fun V => Sat.ref_add peak z hP.1 hP.2 b5.1 b5.2 V
  have C7 := fun V => Sat.ref_sub peak z hP.1 hP.2 b5.1 b5.2 V
  by_cases h : k ≤ t
  · rw [if_pos h]
    go_enter Try.func46, Try.ntmps46
    go_wp2_with (first
      | (go_at_call 67; refine (C1 _).mono ?_; rintro e w1 ⟨rfl, rfl⟩)
      | (go_at_call 48; (with_reducible refine (C2 _).mono ?_); rintro e w2 ⟨rfl, L2⟩; clear C2)
      | (go_at_call 48; (with_reducible refine (C3 _).mono ?_); rintro e w3 ⟨rfl, L3⟩; have M3 := Base.next L2 L3; clear C3)
      | (go_at_call 42; refine (C4 _).mono ?_; rintro e w4 ⟨rfl, rfl⟩)
      | (go_at_call 48; (with_reducible refine (C5 _).mono ?_); rintro e w5 ⟨rfl, L5⟩; have M5 := Base.next M3 L5)
      | (go_at_call 44; refine (C6 _).mono ?_; rintro e w6 ⟨rfl, rfl⟩))
    go_ret
    exact ⟨rfl, M5⟩
  · rw [if_neg h]
    go_enter Try.func46, Try.ntmps46
    go_wp2_with (first
      | (go_at_call 67; refine (C1 _).mono ?_; rintro e w1 ⟨rfl, rfl⟩)
      | (go_at_call 48; (with_reducible refine (C2 _).mono ?_); rintro e w2 ⟨rfl, L2⟩; clear C2)
      | (go_at_call 48; (with_reducible refine (C3 _).mono ?_); rintro e w3 ⟨rfl, L3⟩; have M3 := Base.next L2 L3; clear C3)
      | (go_at_call 42; refine (C4 _).mono ?_; rintro e w4 ⟨rfl, rfl⟩)
      | (go_at_call 48; (with_reducible refine (C5 _).mono ?_); rintro e w5 ⟨rfl, L5⟩; have M5 := Base.next M3 L5)
      | (go_at_call 47; refine (C7 _).mono ?_; rintro e w6 ⟨rfl, rfl⟩))
    go_ret
    exact ⟨rfl, M5⟩
set_option maxHeartbeats 1000000 in
theorem ref_long (peak cw mss : Int) (hP : U peak) (hC : U cw) (hm : U mss) (w : World) :
    Calls Try.prog 45 #[.int .u64 peak, .int .u64 cw, .int .u64 mss] w fun e w' => e = .returned (.int .u64 (longC peak cw mss)) ∧ Below w.heap.size w w' := by
  unfold longC
  by_cases h1 : peak ≤ cw
  · rw [if_pos (.inl h1)]
    go_enter Try.func45, Try.ntmps45
    go_wp2
    go_ret
    exact ⟨rfl, Below.refl _ _⟩
  · by_cases h2 : mss = 0
    · rw [if_pos (.inr h2)]
      subst h2
      go_enter Try.func45, Try.ntmps45
      go_wp2
      go_ret
      exact ⟨rfl, Below.refl _ _⟩
    · rw [if_neg (by omega)]
      unfold U at hP hC hm
      have hmp : 0 < mss := by omega
      have CT := fun V => Wide.ref_times (peak - cw) 2500000000000000000 (by omega) (by omega) (by decide) (by decide) V
      have hX0 : 0 ≤ (peak - cw) * 2500000000000000000 := by omega
      have hX1 : (peak - cw) * 2500000000000000000 < 18446744073709551616 * 18446744073709551616 := by omega
      have hD := two_div (X := (peak - cw) * 2500000000000000000) (m := mss) (B := 18446744073709551616) hmp (by decide)
      have hN0 := Int.ediv_nonneg hX0 hm.1
      have hN1 : (peak - cw) * 2500000000000000000 / mss ≤ (peak - cw) * 2500000000000000000 := Int.ediv_le_self _ hX0
      have hH0 : 0 ≤ (peak - cw) * 2500000000000000000 / 18446744073709551616 := by omega
      have hH1 : (peak - cw) * 2500000000000000000 / 18446744073709551616 ≤ 18446744073709551615 := by omega
      have hL0 : 0 ≤ (peak - cw) * 2500000000000000000 % 18446744073709551616 := by omega
      have hL1 : (peak - cw) * 2500000000000000000 % 18446744073709551616 ≤ 18446744073709551615 := by omega
      have hroot := cbrt_is hN0 (by omega)
      generalize (peak - cw) * 2500000000000000000 / mss = N at *
      generalize (peak - cw) * 2500000000000000000 / 18446744073709551616 = hi at *
      generalize (peak - cw) * 2500000000000000000 % 18446744073709551616 = lo at *
      have hr0 := Int.emod_nonneg hi (show mss ≠ 0 by omega)
      have hr1 := Int.emod_lt_of_pos hi hmp
      have hq0 := Int.ediv_nonneg hH0 hm.1
      have hq1 : hi / mss ≤ hi := Int.ediv_le_self _ hH0
      have et : hi.tmod mss = hi % mss := Int.tmod_eq_emod_of_nonneg hH0
      have ed : hi.tdiv mss = hi / mss := Int.tdiv_eq_ediv_of_nonneg hH0
      have CDv := fun V => Wide.ref_div_yes (hi % mss) lo mss hr0 hr1 hL0 hL1 hm.2 V
      have hqb : 0 ≤ (hi % mss * 18446744073709551616 + lo) / mss ∧ (hi % mss * 18446744073709551616 + lo) / mss ≤ 18446744073709551615 := by
        refine ⟨Int.ediv_nonneg (by omega) hm.1, ?_⟩
        have : (hi % mss * 18446744073709551616 + lo) / mss < 18446744073709551616 := Int.ediv_lt_of_lt_mul hmp (by omega)
        omega
      generalize hi % mss = r at *
      generalize (r * 18446744073709551616 + lo) % mss = r2 at *
      generalize (r * 18446744073709551616 + lo) / mss = q at *
      have CCu := fun V => Root.ref_cube (hi / mss) q hq0 (by omega) hqb.1 hqb.2 V
      rw [hD] at CCu
      generalize hi / mss = hq at *
      have HR := Lib.hid hroot
      have esu : IntKind.u64.wrap (peak - cw) = peak - cw := by rw [IntKind.wrap_u64]; omega
      clear hroot hD hX0 hX1 hN0 hN1
      go_enter Try.func45, Try.ntmps45
      go_upto_region 4 with (go_at_call 64; refine (CT _).mono ?_; rintro e w1 ⟨rfl, L1⟩)
      have hB := Blk.new w1 #[.int .u64 hi, .int .u64 lo] 76
      have hL := L1.alloc L1.size (.cells #[.int .u64 hi, .int .u64 lo] 76)
      generalize w1.alloc (.cells #[.int .u64 hi, .int .u64 lo] 76) = W at *
      generalize w1.heap.size = gb at *
      have k0 : W.cell? ⟨gb, 0, none⟩ = some (.int .u64 hi) := hB.cell 0
      have k1 : W.cell? ⟨gb, 1, none⟩ = some (.int .u64 lo) := hB.cell 1
      have f0 := fun p : In (Lt W) => inCell p k0
      have f1 := fun p : In (Lt W) => inCell p k1
      refine wp_region_in (Lt W) (Lt.drew W) (by kernel_rfl) (by kernel_rfl) ?_
      repeat (go_big_quiet_step ((go_at_call 65; exact in_same (CDv _))))
      refine wpQuiet_nil ?_
      rintro w2 ⟨⟨_, hw2⟩, rfl⟩
      have hw2 : Below W.heap.size W w2 := hw2
      clear f0 f1 k0 k1
      have hB2 := hB.below hw2 hB.lt
      have k0 : w2.cell? ⟨gb, 0, none⟩ = some (.int .u64 hi) := hB2.cell 0
      have hlt2 := hB2.lt
      go_wp2_with (go_at_call 66; refine (CCu _).mono ?_; rintro e w3 ⟨z, rfl, hz, L3⟩)
      go_ret
      exact ⟨by rw [Go.Proofs.Ytnnpklnhdfpnjaa.Root.root_one hz HR.out]; rfl, Base.next (Base.next hL hw2) L3⟩
set_option maxHeartbeats 2000000 in
theorem ref_cutc (x : Wn) (hx : WFit x) (num den : Int) (ha : U num) (hm : U den) (w : World) :
    Calls Try.prog 52 #[.agg (wc x), .int .u64 num, .int .u64 den] w (WinPost w (cutC x num den)) := by
  have hC := hx.cw
  obtain ⟨c, t, a, p, e, k, f⟩ := x
  unfold cutC WinPost wc
  simp only at hC ⊢
  have CD := fun V => Wide.ref_down c num den hC.1 hC.2 ha.1 ha.2 hm.1 hm.2 V
  generalize Wide.down c num den = d at *
  have CP := fun V => Wide.ref_down c 17 20 hC.1 hC.2 (by decide) (by decide) (by decide) (by decide) V
  generalize Wide.down c 17 20 = pp at *
  by_cases h1 : p ≤ c
  · rw [if_pos h1]
    have h1' : ¬ c < p := by omega
    go_enter Try.func52, Try.ntmps52
    go_upto_region 1 with fail
    refine at_any ?_
    intro W hW
    obtain ⟨wB, oB, hL⟩ : Blk W w.heap.size #[.int .u64 c, .int .u64 t, .int .u64 a, .int .u64 p, .int .u64 e, .int .u64 k, .int .u64 f] 27 ∧ Blk W (w.heap.size + 1) #[.int .u64 0, .int .u64 0, .int .u64 0, .int .u64 0, .int .u64 0, .int .u64 0, .int .u64 0] 27 ∧ Below w.heap.size w W := by
      have h1 := Blk.new w #[.int .u64 c, .int .u64 t, .int .u64 a, .int .u64 p, .int .u64 e, .int .u64 k, .int .u64 f] 27
      have h2 := Blk.new (w.alloc (.cells #[.int .u64 c, .int .u64 t, .int .u64 a, .int .u64 p, .int .u64 e, .int .u64 k, .int .u64 f] 27)) #[.int .u64 0, .int .u64 0, .int .u64 0, .int .u64 0, .int .u64 0, .int .u64 0, .int .u64 0] 27
      rw [World.size_alloc] at h2
      subst hW
      exact ⟨h1.alloc _, h2, ((Below.refl _ _).alloc (Nat.le_refl _) _).alloc (by simp) _⟩
    clear hW
    generalize hob : w.heap.size + 1 = ob at *
    have hlt := wB.lt
    have hl2 := oB.lt
    obtain ⟨k0, k1, k2, k3, k4, k5, k6⟩ := blk7 wB
    have z0 := wB.free 0
    have z3 := wB.free 3
    have z4 := wB.free 4
    have z5 := wB.free 5
    have z6 := wB.free 6
    go_wp2_with (first
      | (go_at_call 48; (with_reducible refine (CD _).mono ?_); rintro e' y ⟨rfl, L1⟩; replace oB := oB.below L1 hl2; replace hL := Base.next hL L1)
      | (refine wpl_store_row rfl 27 (.tmp 6) (.tmp 27) rfl oB #[.int .u64 d, .int .u64 d, .int .u64 0, .int .u64 c, .int .u64 18446744073709551615, .int .u64 0, .int .u64 0] rfl rfl (by kernel_rfl) rfl (by simp [Value.oneCell']) ?_))
    refine bodyPost_ret (results_cell_row rfl _ _ ob 27 #[.int .u64 d, .int .u64 d, .int .u64 0, .int .u64 c, .int .u64 18446744073709551615, .int .u64 0, .int .u64 0] (0, 0) _ rfl (oB.setRow _) Try.underlying27 rfl (by kernel_rfl)) rfl ?_
    exact ⟨rfl, below_setRow' hL (by omega)⟩
  · rw [if_neg h1]
    have h1' : c < p := by omega
    go_enter Try.func52, Try.ntmps52
    go_upto_region 1 with fail
    refine at_any ?_
    intro W hW
    obtain ⟨wB, oB, hL⟩ : Blk W w.heap.size #[.int .u64 c, .int .u64 t, .int .u64 a, .int .u64 p, .int .u64 e, .int .u64 k, .int .u64 f] 27 ∧ Blk W (w.heap.size + 1) #[.int .u64 0, .int .u64 0, .int .u64 0, .int .u64 0, .int .u64 0, .int .u64 0, .int .u64 0] 27 ∧ Below w.heap.size w W := by
      have h1 := Blk.new w #[.int .u64 c, .int .u64 t, .int .u64 a, .int .u64 p, .int .u64 e, .int .u64 k, .int .u64 f] 27
      have h2 := Blk.new (w.alloc (.cells #[.int .u64 c, .int .u64 t, .int .u64 a, .int .u64 p, .int .u64 e, .int .u64 k, .int .u64 f] 27)) #[.int .u64 0, .int .u64 0, .int .u64 0, .int .u64 0, .int .u64 0, .int .u64 0, .int .u64 0] 27
      rw [World.size_alloc] at h2
      subst hW
      exact ⟨h1.alloc _, h2, ((Below.refl _ _).alloc (Nat.le_refl _) _).alloc (by simp) _⟩
    clear hW
    generalize hob : w.heap.size + 1 = ob at *
    have hlt := wB.lt
    have hl2 := oB.lt
    obtain ⟨k0, k1, k2, k3, k4, k5, k6⟩ := blk7 wB
    have z0 := wB.free 0
    have z3 := wB.free 3
    have z4 := wB.free 4
    have z5 := wB.free 5
    have z6 := wB.free 6
    go_wp2_with (first
      | (go_at_call 48; (with_reducible refine (CP _).mono ?_); rintro e' y0 ⟨rfl, L0⟩; replace wB := wB.below L0 hlt; replace oB := oB.below L0 hl2; replace hL := Base.next hL L0; clear k0 CP; have k0 : y0.cell? ⟨w.heap.size, 0, none⟩ = some (.int .u64 c) := wB.cell 0; have hl2 := oB.lt; have hlt := wB.lt)
      | (go_at_call 48; (with_reducible refine (CD _).mono ?_); rintro e' y ⟨rfl, L1⟩; replace oB := oB.below L1 hl2; replace hL := Base.next hL L1)
      | (refine wpl_store_row rfl 27 (.tmp 6) (.tmp 27) rfl oB #[.int .u64 d, .int .u64 d, .int .u64 0, .int .u64 pp, .int .u64 18446744073709551615, .int .u64 0, .int .u64 0] rfl rfl (by kernel_rfl) rfl (by simp [Value.oneCell']) ?_))
    refine bodyPost_ret (results_cell_row rfl _ _ ob 27 #[.int .u64 d, .int .u64 d, .int .u64 0, .int .u64 pp, .int .u64 18446744073709551615, .int .u64 0, .int .u64 0] (0, 0) _ rfl (oB.setRow _) Try.underlying27 rfl (by kernel_rfl)) rfl ?_
    exact ⟨rfl, below_setRow' hL (by omega)⟩
set_option maxHeartbeats 8000000 in
theorem ref_growc (x : Wn) (hx : WFit x) (acked mss now smooth : Int) (ha : U acked) (hm : U mss) (hn : U now) (hs : U smooth) (w : World) :
    Calls Try.prog 26 #[.agg (wc x), .int .u64 acked, .int .u64 mss, .int .u64 now, .int .u64 smooth] w (WinPost w (growC x acked mss now smooth)) := by
  have CSl := fun V => ref_slow x hx acked mss ha hm V
  obtain ⟨hC, hT, hA, hP, hE, hK, hF⟩ := hx
  obtain ⟨c, t, a, p, e, k, f⟩ := x
  simp only at hC hT hA hP hE hK hF
  by_cases h1 : c < t
  · rw [show growC ⟨c, t, a, p, e, k, f⟩ acked mss now smooth = slowW ⟨c, t, a, p, e, k, f⟩ acked mss by unfold growC; rw [if_pos h1]]
    unfold WinPost at CSl ⊢
    generalize slowW ⟨c, t, a, p, e, k, f⟩ acked mss = sl at *
    obtain ⟨y0, y1, y2, y3, y4, y5, y6⟩ := sl
    unfold wc at CSl ⊢
    simp only at CSl ⊢
    unfold U at *
    go_enter Try.func26, Try.ntmps26
    go_upto_region 1 with fail
    refine at_any ?_
    intro W hW
    obtain ⟨wB, oB, hL⟩ : Blk W w.heap.size #[.int .u64 c, .int .u64 t, .int .u64 a, .int .u64 p, .int .u64 e, .int .u64 k, .int .u64 f] 27 ∧ Blk W (w.heap.size + 1) #[.int .u64 0, .int .u64 0, .int .u64 0, .int .u64 0, .int .u64 0, .int .u64 0, .int .u64 0] 27 ∧ Below w.heap.size w W := by
      have h1 := Blk.new w #[.int .u64 c, .int .u64 t, .int .u64 a, .int .u64 p, .int .u64 e, .int .u64 k, .int .u64 f] 27
      have h2 := Blk.new (w.alloc (.cells #[.int .u64 c, .int .u64 t, .int .u64 a, .int .u64 p, .int .u64 e, .int .u64 k, .int .u64 f] 27)) #[.int .u64 0, .int .u64 0, .int .u64 0, .int .u64 0, .int .u64 0, .int .u64 0, .int .u64 0] 27
      rw [World.size_alloc] at h2
      subst hW
      exact ⟨h1.alloc _, h2, ((Below.refl _ _).alloc (Nat.le_refl _) _).alloc (by simp) _⟩
    clear hW
    generalize hob : w.heap.size + 1 = ob at *
    have hlt := wB.lt
    have hl2 := oB.lt
    obtain ⟨k0, k1, k2, k3, k4, k5, k6⟩ := blk7 wB
    have z0 := wB.free 0
    have z3 := wB.free 3
    have z4 := wB.free 4
    have z5 := wB.free 5
    have z6 := wB.free 6
    go_wp2_with (first
      | (go_at_call 43; refine (CSl _).mono ?_; rintro e' y ⟨rfl, L1⟩; have oY := oB.below L1 hl2; have hY := Base.next hL L1)
      | (refine wpl_store_row rfl 27 (.tmp 10) (.tmp 21) rfl oY #[.int .u64 y0, .int .u64 y1, .int .u64 y2, .int .u64 y3, .int .u64 y4, .int .u64 y5, .int .u64 y6] rfl rfl (by kernel_rfl) rfl (by simp [Value.oneCell']) ?_))
    refine bodyPost_ret (results_cell_row rfl _ _ ob 27 #[.int .u64 y0, .int .u64 y1, .int .u64 y2, .int .u64 y3, .int .u64 y4, .int .u64 y5, .int .u64 y6] (0, 0) _ rfl (oY.setRow _) Try.underlying27 rfl (by kernel_rfl)) rfl ?_
    exact ⟨rfl, below_setRow' hY (by omega)⟩
  · clear CSl
    by_cases h2 : e = 18446744073709551615
    · subst h2
      have CLg := fun V => ref_long p c mss hP hC hm V
      have hb : beginC ⟨c, t, a, p, 18446744073709551615, k, f⟩ mss now = ⟨c, t, a, max p c, now, longC p c mss, c⟩ := by unfold beginC; rw [if_pos rfl]
      have hg0 : growC ⟨c, t, a, p, 18446744073709551615, k, f⟩ acked mss now smooth = if c = 0 then ⟨c, t, a, max p c, now, longC p c mss, c⟩ else goC ⟨c, t, a, max p c, now, longC p c mss, c⟩ acked mss now smooth := by unfold growC; rw [if_neg h1, hb]
      rw [hg0]
      clear hg0 hb hK hF hE
      have hK := longC_bd hP hC hm
      have hF := hC
      have hE := hn
      generalize longC p c mss = kk at *
      have hP' : U (max p c) := by unfold U at *; omega
      generalize hpm : max p c = pm at *
      have HPm := Lib.hid hpm
      clear hpm
      replace hP := hP'
      clear hP'
      unfold WinPost
      by_cases h3 : c = 0
      · rw [if_pos h3]
        subst h3
        unfold wc
        simp only
        unfold U at *
        go_enter Try.func26, Try.ntmps26
        go_upto_region 1 with fail
        refine at_any ?_
        intro W hW
        obtain ⟨wB, oB, hL⟩ : Blk W w.heap.size #[.int .u64 0, .int .u64 t, .int .u64 a, .int .u64 p, .int .u64 18446744073709551615, .int .u64 k, .int .u64 f] 27 ∧ Blk W (w.heap.size + 1) #[.int .u64 0, .int .u64 0, .int .u64 0, .int .u64 0, .int .u64 0, .int .u64 0, .int .u64 0] 27 ∧ Below w.heap.size w W := by
          have h1 := Blk.new w #[.int .u64 0, .int .u64 t, .int .u64 a, .int .u64 p, .int .u64 18446744073709551615, .int .u64 k, .int .u64 f] 27
          have h2 := Blk.new (w.alloc (.cells #[.int .u64 0, .int .u64 t, .int .u64 a, .int .u64 p, .int .u64 18446744073709551615, .int .u64 k, .int .u64 f] 27)) #[.int .u64 0, .int .u64 0, .int .u64 0, .int .u64 0, .int .u64 0, .int .u64 0, .int .u64 0] 27
          rw [World.size_alloc] at h2
          subst hW
          exact ⟨h1.alloc _, h2, ((Below.refl _ _).alloc (Nat.le_refl _) _).alloc (by simp) _⟩
        clear hW
        generalize hob : w.heap.size + 1 = ob at *
        have hlt := wB.lt
        have hl2 := oB.lt
        obtain ⟨k0, k1, k2, k3, k4, k5, k6⟩ := blk7 wB
        have z0 := wB.free 0
        have z3 := wB.free 3
        have z4 := wB.free 4
        have z5 := wB.free 5
        have z6 := wB.free 6
        go_upto_region 5 with fail
        refine at_any ?_
        intro X hX
        obtain ⟨wB', oB', hL'⟩ : Blk X w.heap.size #[.int .u64 0, .int .u64 t, .int .u64 a, .int .u64 p, .int .u64 now, .int .u64 k, .int .u64 f] 27 ∧ Blk X ob #[.int .u64 0, .int .u64 0, .int .u64 0, .int .u64 0, .int .u64 0, .int .u64 0, .int .u64 0] 27 ∧ Below w.heap.size w X := by
          subst hX
          exact ⟨(wB.set 4 (.int .u64 now)), (oB.other (show ob ≠ w.heap.size by omega) _), (hL.setCell (Nat.le_refl _) _)⟩
        clear hX wB oB hL
        clear hlt hl2 k0 k1 k2 k3 k4 k5 k6 z0 z3 z4 z5 z6
        have wB := wB'
        have oB := oB'
        have hL := hL'
        clear wB' oB' hL'
        have hlt := wB.lt
        have hl2 := oB.lt
        obtain ⟨k0, k1, k2, k3, k4, k5, k6⟩ := blk7 wB
        have z0 := wB.free 0
        have z3 := wB.free 3
        have z4 := wB.free 4
        have z5 := wB.free 5
        have z6 := wB.free 6
        go_upto_region 6 with fail
        refine at_any ?_
        intro X hX
        obtain ⟨wB', oB', hL'⟩ : Blk X w.heap.size #[.int .u64 0, .int .u64 t, .int .u64 a, .int .u64 p, .int .u64 now, .int .u64 k, .int .u64 0] 27 ∧ Blk X ob #[.int .u64 0, .int .u64 0, .int .u64 0, .int .u64 0, .int .u64 0, .int .u64 0, .int .u64 0] 27 ∧ Below w.heap.size w X := by
          subst hX
          exact ⟨(wB.set 6 (.int .u64 0)), (oB.other (show ob ≠ w.heap.size by omega) _), (hL.setCell (Nat.le_refl _) _)⟩
        clear hX wB oB hL
        clear hlt hl2 k0 k1 k2 k3 k4 k5 k6 z0 z3 z4 z5 z6
        have wB := wB'
        have oB := oB'
        have hL := hL'
        clear wB' oB' hL'
        have hlt := wB.lt
        have hl2 := oB.lt
        obtain ⟨k0, k1, k2, k3, k4, k5, k6⟩ := blk7 wB
        have z0 := wB.free 0
        have z3 := wB.free 3
        have z4 := wB.free 4
        have z5 := wB.free 5
        have z6 := wB.free 6
        go_upto_region 7 with (go_at_call 45; refine (CLg _).mono ?_; rintro e' y ⟨rfl, L1⟩; replace wB := wB.below L1 hlt; replace oB := oB.below L1 hl2; replace hL := Base.next hL L1; have hlt := wB.lt; have hl2 := oB.lt; have k5 : y.cell? ⟨w.heap.size, 5, none⟩ = some (.int .u64 k) := wB.cell 5; have z5 := wB.free 5)
        refine at_any ?_
        intro X hX
        obtain ⟨wB', oB', hL'⟩ : Blk X w.heap.size #[.int .u64 0, .int .u64 t, .int .u64 a, .int .u64 p, .int .u64 now, .int .u64 kk, .int .u64 0] 27 ∧ Blk X ob #[.int .u64 0, .int .u64 0, .int .u64 0, .int .u64 0, .int .u64 0, .int .u64 0, .int .u64 0] 27 ∧ Below w.heap.size w X := by
          subst hX
          exact ⟨(wB.set 5 (.int .u64 kk)), (oB.other (show ob ≠ w.heap.size by omega) _), (hL.setCell (Nat.le_refl _) _)⟩
        clear hX wB oB hL
        clear hlt hl2 k0 k1 k2 k3 k4 k5 k6 z0 z3 z4 z5 z6
        have wB := wB'
        have oB := oB'
        have hL := hL'
        clear wB' oB' hL'
        have hlt := wB.lt
        have hl2 := oB.lt
        obtain ⟨k0, k1, k2, k3, k4, k5, k6⟩ := blk7 wB
        have z0 := wB.free 0
        have z3 := wB.free 3
        have z4 := wB.free 4
        have z5 := wB.free 5
        have z6 := wB.free 6
        go_upto_region 8 with (refine wpl_value (v := .int .u64 pm) rfl (by rw [← HPm.out]; exact mx_u64 (.tmp 38) (.tmp 40) _ (n := p) (m := 0) rfl rfl rfl) ?_)
        refine at_any ?_
        intro X hX
        obtain ⟨wB', oB', hL'⟩ : Blk X w.heap.size #[.int .u64 0, .int .u64 t, .int .u64 a, .int .u64 pm, .int .u64 now, .int .u64 kk, .int .u64 0] 27 ∧ Blk X ob #[.int .u64 0, .int .u64 0, .int .u64 0, .int .u64 0, .int .u64 0, .int .u64 0, .int .u64 0] 27 ∧ Below w.heap.size w X := by
          subst hX
          exact ⟨(wB.set 3 (.int .u64 pm)), (oB.other (show ob ≠ w.heap.size by omega) _), (hL.setCell (Nat.le_refl _) _)⟩
        clear hX wB oB hL
        clear hlt hl2 k0 k1 k2 k3 k4 k5 k6 z0 z3 z4 z5 z6
        have wB := wB'
        have oB := oB'
        have hL := hL'
        clear wB' oB' hL'
        have hlt := wB.lt
        have hl2 := oB.lt
        obtain ⟨k0, k1, k2, k3, k4, k5, k6⟩ := blk7 wB
        have z0 := wB.free 0
        have z3 := wB.free 3
        have z4 := wB.free 4
        have z5 := wB.free 5
        have z6 := wB.free 6

        go_wp2_with (refine wpl_store_row rfl 27 (.tmp 10) (.tmp 46) rfl oB #[.int .u64 0, .int .u64 t, .int .u64 a, .int .u64 pm, .int .u64 now, .int .u64 kk, .int .u64 0] rfl rfl (by kernel_rfl) rfl (by simp [Value.oneCell']) ?_)
        refine bodyPost_ret (results_cell_row rfl _ _ ob 27 #[.int .u64 0, .int .u64 t, .int .u64 a, .int .u64 pm, .int .u64 now, .int .u64 kk, .int .u64 0] (0, 0) _ rfl (oB.setRow _) Try.underlying27 rfl (by kernel_rfl)) rfl ?_
        exact ⟨rfl, below_setRow' hL (by omega)⟩
      · rw [if_neg h3]
        unfold wc
        have CSu := fun V => Sat.ref_sub now now hn.1 hn.2 hE.1 hE.2 V
        have bSu := Sat.sub_bd (a := now) (b := now) hE.1 hn.2
        obtain ⟨su, eSu⟩ : ∃ v, Sat.sub now now = v := ⟨_, rfl⟩
        rw [eSu] at CSu bSu
        have CAd := fun V => Sat.ref_add su smooth bSu.1 bSu.2 hs.1 hs.2 V
        have bAd := Sat.add_bd bSu.1 hs.1
        obtain ⟨ad, eAd⟩ : ∃ v, Sat.add su smooth = v := ⟨_, rfl⟩
        rw [eAd] at CAd bAd
        have CAt := fun V => ref_at pm kk ad mss hP hK bAd hm V
        have bAt := atC_bd hP hK bAd hm
        obtain ⟨am, eAm⟩ : ∃ v, atC pm kk ad mss = v := ⟨_, rfl⟩
        rw [eAm] at CAt bAt
        have CDn := fun V => Wide.ref_down c 3 2 hC.1 hC.2 (by decide) (by decide) (by decide) (by decide) V
        have bDn := down_bd (a := c) (b := 3) (d := 2) hC.1 (by decide) (by decide)
        obtain ⟨dn, eDn⟩ : ∃ v, Wide.down c 3 2 = v := ⟨_, rfl⟩
        rw [eDn] at CDn bDn
        have m1 : (if dn < am then dn else am) = min am dn := by split <;> omega
        have bMn : U (min am dn) := by unfold U at *; omega
        obtain ⟨mn, eMn⟩ : ∃ v, min am dn = v := ⟨_, rfl⟩
        rw [eMn] at m1 bMn
        have m2 : (if c < mn then mn else c) = max c mn := by split <;> omega
        have bAi : c ≤ max c mn ∧ U (max c mn) := by unfold U at *; omega
        obtain ⟨ai, eAi⟩ : ∃ v, max c mn = v := ⟨_, rfl⟩
        rw [eAi] at m2 bAi
        have CMo := fun V => Wide.ref_down mss acked c hm.1 hm.2 ha.1 ha.2 hC.1 hC.2 V
        have bMo := down_bd (a := mss) (b := acked) (d := c) hm.1 ha.1 hC.1
        obtain ⟨mo, eMo⟩ : ∃ v, Wide.down mss acked c = v := ⟨_, rfl⟩
        rw [eMo] at CMo bMo
        have CM2 := fun V => Wide.ref_down mo 9 17 bMo.1 bMo.2 (by decide) (by decide) (by decide) (by decide) V
        have bM2 := down_bd (a := mo) (b := 9) (d := 17) bMo.1 (by decide) (by decide)
        obtain ⟨mq, eM2⟩ : ∃ v, Wide.down mo 9 17 = v := ⟨_, rfl⟩
        rw [eM2] at CM2 bM2
        have CRi := fun V => Wide.ref_down (ai - c) acked c (by unfold U at *; omega) (by unfold U at *; omega) ha.1 ha.2 hC.1 hC.2 V
        have bRi := down_bd (a := ai - c) (b := acked) (d := c) (by omega) ha.1 hC.1
        obtain ⟨ri, eRi⟩ : ∃ v, Wide.down (ai - c) acked c = v := ⟨_, rfl⟩
        rw [eRi] at CRi bRi
        have CRs := fun V => Sat.ref_add c ri hC.1 hC.2 bRi.1 bRi.2 V
        have bRs := Sat.add_bd hC.1 bRi.1
        obtain ⟨ris, eRs⟩ : ∃ v, Sat.add c ri = v := ⟨_, rfl⟩
        rw [eRs] at CRs bRs
        have eWr : IntKind.u64.wrap (ai - c) = ai - c := by rw [IntKind.wrap_u64]; unfold U at *; omega
        by_cases hfp : c < pm
        · have CQ := fun V => Sat.ref_add c mq hF.1 hF.2 bM2.1 bM2.2 V
          have bQ := Sat.add_bd hF.1 bM2.1
          obtain ⟨q, eQ⟩ : ∃ v, Sat.add c mq = v := ⟨_, rfl⟩
          rw [eQ] at CQ bQ
          obtain ⟨fin, eFn⟩ : ∃ v, max ris q = v := ⟨_, rfl⟩
          have HFn := Lib.hid eFn
          have hG : goC ⟨c, t, a, pm, now, kk, c⟩ acked mss now smooth = ⟨fin, t, a, pm, now, kk, q⟩ := by
            unfold goC riseC fairC moreC aimC
            simp only
            rw [eSu, eAd, eAm, eDn, eMn, eAi, eRi, eRs, eMo, if_pos hfp, eM2, eQ, eFn]
          rw [hG]
          clear hG eSu eAd eAm eDn eRi eMo eM2 eRs eQ eFn
          unfold U at *
          go_enter Try.func26, Try.ntmps26
          go_upto_region 1 with fail
          refine at_any ?_
          intro W hW
          obtain ⟨wB, oB, hL⟩ : Blk W w.heap.size #[.int .u64 c, .int .u64 t, .int .u64 a, .int .u64 p, .int .u64 18446744073709551615, .int .u64 k, .int .u64 f] 27 ∧ Blk W (w.heap.size + 1) #[.int .u64 0, .int .u64 0, .int .u64 0, .int .u64 0, .int .u64 0, .int .u64 0, .int .u64 0] 27 ∧ Below w.heap.size w W := by
            have h1 := Blk.new w #[.int .u64 c, .int .u64 t, .int .u64 a, .int .u64 p, .int .u64 18446744073709551615, .int .u64 k, .int .u64 f] 27
            have h2 := Blk.new (w.alloc (.cells #[.int .u64 c, .int .u64 t, .int .u64 a, .int .u64 p, .int .u64 18446744073709551615, .int .u64 k, .int .u64 f] 27)) #[.int .u64 0, .int .u64 0, .int .u64 0, .int .u64 0, .int .u64 0, .int .u64 0, .int .u64 0] 27
            rw [World.size_alloc] at h2
            subst hW
            exact ⟨h1.alloc _, h2, ((Below.refl _ _).alloc (Nat.le_refl _) _).alloc (by simp) _⟩
          clear hW
          generalize hob : w.heap.size + 1 = ob at *
          have hlt := wB.lt
          have hl2 := oB.lt
          obtain ⟨k0, k1, k2, k3, k4, k5, k6⟩ := blk7 wB
          have z0 := wB.free 0
          have z3 := wB.free 3
          have z4 := wB.free 4
          have z5 := wB.free 5
          have z6 := wB.free 6
          go_upto_region 5 with fail
          refine at_any ?_
          intro X hX
          obtain ⟨wB', oB', hL'⟩ : Blk X w.heap.size #[.int .u64 c, .int .u64 t, .int .u64 a, .int .u64 p, .int .u64 now, .int .u64 k, .int .u64 f] 27 ∧ Blk X ob #[.int .u64 0, .int .u64 0, .int .u64 0, .int .u64 0, .int .u64 0, .int .u64 0, .int .u64 0] 27 ∧ Below w.heap.size w X := by
            subst hX
            exact ⟨(wB.set 4 (.int .u64 now)), (oB.other (show ob ≠ w.heap.size by omega) _), (hL.setCell (Nat.le_refl _) _)⟩
          clear hX wB oB hL
          clear hlt hl2 k0 k1 k2 k3 k4 k5 k6 z0 z3 z4 z5 z6
          have wB := wB'
          have oB := oB'
          have hL := hL'
          clear wB' oB' hL'
          have hlt := wB.lt
          have hl2 := oB.lt
          obtain ⟨k0, k1, k2, k3, k4, k5, k6⟩ := blk7 wB
          have z0 := wB.free 0
          have z3 := wB.free 3
          have z4 := wB.free 4
          have z5 := wB.free 5
          have z6 := wB.free 6
          go_upto_region 6 with fail
          refine at_any ?_
          intro X hX
          obtain ⟨wB', oB', hL'⟩ : Blk X w.heap.size #[.int .u64 c, .int .u64 t, .int .u64 a, .int .u64 p, .int .u64 now, .int .u64 k, .int .u64 c] 27 ∧ Blk X ob #[.int .u64 0, .int .u64 0, .int .u64 0, .int .u64 0, .int .u64 0, .int .u64 0, .int .u64 0] 27 ∧ Below w.heap.size w X := by
            subst hX
            exact ⟨(wB.set 6 (.int .u64 c)), (oB.other (show ob ≠ w.heap.size by omega) _), (hL.setCell (Nat.le_refl _) _)⟩
          clear hX wB oB hL
          clear hlt hl2 k0 k1 k2 k3 k4 k5 k6 z0 z3 z4 z5 z6
          have wB := wB'
          have oB := oB'
          have hL := hL'
          clear wB' oB' hL'
          have hlt := wB.lt
          have hl2 := oB.lt
          obtain ⟨k0, k1, k2, k3, k4, k5, k6⟩ := blk7 wB
          have z0 := wB.free 0
          have z3 := wB.free 3
          have z4 := wB.free 4
          have z5 := wB.free 5
          have z6 := wB.free 6
          go_upto_region 7 with (go_at_call 45; refine (CLg _).mono ?_; rintro e' y ⟨rfl, L1⟩; replace wB := wB.below L1 hlt; replace oB := oB.below L1 hl2; replace hL := Base.next hL L1; have hlt := wB.lt; have hl2 := oB.lt; have k5 : y.cell? ⟨w.heap.size, 5, none⟩ = some (.int .u64 k) := wB.cell 5; have z5 := wB.free 5)
          refine at_any ?_
          intro X hX
          obtain ⟨wB', oB', hL'⟩ : Blk X w.heap.size #[.int .u64 c, .int .u64 t, .int .u64 a, .int .u64 p, .int .u64 now, .int .u64 kk, .int .u64 c] 27 ∧ Blk X ob #[.int .u64 0, .int .u64 0, .int .u64 0, .int .u64 0, .int .u64 0, .int .u64 0, .int .u64 0] 27 ∧ Below w.heap.size w X := by
            subst hX
            exact ⟨(wB.set 5 (.int .u64 kk)), (oB.other (show ob ≠ w.heap.size by omega) _), (hL.setCell (Nat.le_refl _) _)⟩
          clear hX wB oB hL
          clear hlt hl2 k0 k1 k2 k3 k4 k5 k6 z0 z3 z4 z5 z6
          have wB := wB'
          have oB := oB'
          have hL := hL'
          clear wB' oB' hL'
          have hlt := wB.lt
          have hl2 := oB.lt
          obtain ⟨k0, k1, k2, k3, k4, k5, k6⟩ := blk7 wB
          have z0 := wB.free 0
          have z3 := wB.free 3
          have z4 := wB.free 4
          have z5 := wB.free 5
          have z6 := wB.free 6
          go_upto_region 8 with (refine wpl_value (v := .int .u64 pm) rfl (by rw [← HPm.out]; exact mx_u64 (.tmp 38) (.tmp 40) _ (n := p) (m := c) rfl rfl rfl) ?_)
          refine at_any ?_
          intro X hX
          obtain ⟨wB', oB', hL'⟩ : Blk X w.heap.size #[.int .u64 c, .int .u64 t, .int .u64 a, .int .u64 pm, .int .u64 now, .int .u64 kk, .int .u64 c] 27 ∧ Blk X ob #[.int .u64 0, .int .u64 0, .int .u64 0, .int .u64 0, .int .u64 0, .int .u64 0, .int .u64 0] 27 ∧ Below w.heap.size w X := by
            subst hX
            exact ⟨(wB.set 3 (.int .u64 pm)), (oB.other (show ob ≠ w.heap.size by omega) _), (hL.setCell (Nat.le_refl _) _)⟩
          clear hX wB oB hL
          clear hlt hl2 k0 k1 k2 k3 k4 k5 k6 z0 z3 z4 z5 z6
          have wB := wB'
          have oB := oB'
          have hL := hL'
          clear wB' oB' hL'
          have hlt := wB.lt
          have hl2 := oB.lt
          obtain ⟨k0, k1, k2, k3, k4, k5, k6⟩ := blk7 wB
          have z0 := wB.free 0
          have z3 := wB.free 3
          have z4 := wB.free 4
          have z5 := wB.free 5
          have z6 := wB.free 6
          go_upto_region 10 with fail
          refine at_any ?_
          intro W hW
          obtain ⟨wB', oB', hL'⟩ : Blk W w.heap.size #[.int .u64 c, .int .u64 t, .int .u64 a, .int .u64 pm, .int .u64 now, .int .u64 kk, .int .u64 c] 27 ∧ Blk W ob #[.int .u64 0, .int .u64 0, .int .u64 0, .int .u64 0, .int .u64 0, .int .u64 0, .int .u64 0] 27 ∧ Below w.heap.size w W := by
            subst hW
            exact ⟨wB, oB, hL⟩
          clear hW wB oB hL
          clear hlt hl2 k0 k1 k2 k3 k4 k5 k6 z0 z3 z4 z5 z6
          obtain ⟨k0, k1, k2, k3, k4, k5, k6⟩ := blk7 wB'
          have f3 := fun p : In (Lt W) => inCell p k3
          have f5 := fun p : In (Lt W) => inCell p k5
          have f4 := fun p : In (Lt W) => inCell p k4
          clear k0 k1 k2 k3 k4 k5 k6
          refine wp_region_in (Lt W) (Lt.drew W) (by kernel_rfl) (by kernel_rfl) ?_
          repeat (go_big_quiet_step (first | (go_at_call 47; refine in_same (v := .int .u64 su) ?_; exact CSu _) | (go_at_call 44; refine in_same (v := .int .u64 ad) ?_; exact CAd _) | (go_at_call 46; refine in_below (v := .int .u64 am) ?_; exact CAt _)))
          refine wpQuiet_nil ?_
          rintro w5 ⟨⟨_, hw5⟩, rfl⟩
          have hw5 : Below W.heap.size W w5 := hw5
          clear f3 f5 f4
          have wB := wB'.below hw5 wB'.lt
          have oB := oB'.below hw5 oB'.lt
          have hL := Base.next hL' hw5
          clear wB' oB' hL' hw5
          have hlt := wB.lt
          have hl2 := oB.lt
          obtain ⟨k0, k1, k2, k3, k4, k5, k6⟩ := blk7 wB
          have z0 := wB.free 0
          have z3 := wB.free 3
          have z4 := wB.free 4
          have z5 := wB.free 5
          have z6 := wB.free 6
          go_upto_region 11 with fail
          refine at_any ?_
          intro W hW
          obtain ⟨wB', oB', hL'⟩ : Blk W w.heap.size #[.int .u64 c, .int .u64 t, .int .u64 a, .int .u64 pm, .int .u64 now, .int .u64 kk, .int .u64 c] 27 ∧ Blk W ob #[.int .u64 0, .int .u64 0, .int .u64 0, .int .u64 0, .int .u64 0, .int .u64 0, .int .u64 0] 27 ∧ Below w.heap.size w W := by
            subst hW
            exact ⟨wB, oB, hL⟩
          clear hW wB oB hL
          clear hlt hl2 k0 k1 k2 k3 k4 k5 k6 z0 z3 z4 z5 z6
          obtain ⟨k0, k1, k2, k3, k4, k5, k6⟩ := blk7 wB'
          have f0 := fun p : In (Lt W) => inCell p k0
          clear k0 k1 k2 k3 k4 k5 k6
          refine wp_region_in (Lt W) (Lt.drew W) (by kernel_rfl) (by kernel_rfl) ?_
          repeat (go_big_quiet_step (first | (go_at_call 48; refine in_below (v := .int .u64 dn) ?_; exact CDn _)))
          refine wpQuiet_nil ?_
          rintro w5 ⟨⟨_, hw5⟩, rfl⟩
          have hw5 : Below W.heap.size W w5 := hw5
          clear f0
          have wB := wB'.below hw5 wB'.lt
          have oB := oB'.below hw5 oB'.lt
          have hL := Base.next hL' hw5
          clear wB' oB' hL' hw5
          have hlt := wB.lt
          have hl2 := oB.lt
          obtain ⟨k0, k1, k2, k3, k4, k5, k6⟩ := blk7 wB
          have z0 := wB.free 0
          have z3 := wB.free 3
          have z4 := wB.free 4
          have z5 := wB.free 5
          have z6 := wB.free 6
          go_upto_region 15 with (first
            | (go_at_call 48; (with_reducible refine (CMo _).mono ?_); rintro e' y ⟨rfl, L1⟩; replace wB := wB.below L1 hlt; replace oB := oB.below L1 hl2; replace hL := Base.next hL L1; have hlt := wB.lt; have hl2 := oB.lt; have k0 : y.cell? ⟨w.heap.size, 0, none⟩ = some (.int .u64 c) := wB.cell 0; have z0 := wB.free 0; have k3 : y.cell? ⟨w.heap.size, 3, none⟩ = some (.int .u64 pm) := wB.cell 3; have z3 := wB.free 3; have k6 : y.cell? ⟨w.heap.size, 6, none⟩ = some (.int .u64 c) := wB.cell 6; have z6 := wB.free 6; clear CMo)
            | (go_at_call 48; (with_reducible refine (CM2 _).mono ?_); rintro e' y2 ⟨rfl, L2⟩; replace wB := wB.below L2 hlt; replace oB := oB.below L2 hl2; replace hL := Base.next hL L2; have hlt := wB.lt; have hl2 := oB.lt; have k0 : y2.cell? ⟨w.heap.size, 0, none⟩ = some (.int .u64 c) := wB.cell 0; have z0 := wB.free 0; have k3 : y2.cell? ⟨w.heap.size, 3, none⟩ = some (.int .u64 pm) := wB.cell 3; have z3 := wB.free 3; have k6 : y2.cell? ⟨w.heap.size, 6, none⟩ = some (.int .u64 c) := wB.cell 6; have z6 := wB.free 6; clear CM2))
          refine at_any ?_
          intro W hW
          obtain ⟨wB', oB', hL'⟩ : Blk W w.heap.size #[.int .u64 c, .int .u64 t, .int .u64 a, .int .u64 pm, .int .u64 now, .int .u64 kk, .int .u64 c] 27 ∧ Blk W ob #[.int .u64 0, .int .u64 0, .int .u64 0, .int .u64 0, .int .u64 0, .int .u64 0, .int .u64 0] 27 ∧ Below w.heap.size w W := by
            subst hW
            exact ⟨wB, oB, hL⟩
          clear hW wB oB hL
          clear hlt hl2 k0 k1 k2 k3 k4 k5 k6 z0 z3 z4 z5 z6
          obtain ⟨k0, k1, k2, k3, k4, k5, k6⟩ := blk7 wB'
          have f0 := fun p : In (Lt W) => inCell p k0
          clear k0 k1 k2 k3 k4 k5 k6
          refine wp_region_rest (C := fun w' => ∃ p : In (Lt W), w' = p.w) 12 1 (by kernel_rfl) (by kernel_rfl) (by kernel_rfl) (by kernel_rfl) (by kernel_rfl) ⟨⟨W.drew, Lt.drew W⟩, rfl⟩ ?_
          simp only [List.toList_toArray, List.take_succ_cons, List.take_zero]
          repeat (go_big_quiet_step (first | (go_at_call 48; refine in_below (v := .int .u64 ri) ?_; exact CRi _) | (go_at_call 44; refine in_same (v := .int .u64 ris) ?_; exact CRs _)))
          refine wpQuiet_nil ?_
          rintro w5 ⟨⟨_, hw5⟩, rfl⟩
          have hw5 : Below W.heap.size W w5 := hw5
          clear f0 CRi CRs
          have wB5 := wB'.below hw5 wB'.lt
          have oB5 := oB'.below hw5 oB'.lt
          have hl5 := oB5.lt
          refine wpAny_of_held (S := fun _ => True) _ _ _ _ ?_
          refine held_st (i := 12) rfl (by kernel_rfl) (by kernel_rfl) (st_cell (.tmp 90) (.tmp 89) rfl (g := w.heap.size) (i := 0) (n := ris) (m := c) (by kernel_rfl) (by kernel_rfl) wB5 rfl) trivial ?_
          refine held_done (by kernel_rfl) ?_
          have wB : Blk (w5.setCell ⟨w.heap.size, 0, none⟩ (.int .u64 ris)) w.heap.size #[.int .u64 ris, .int .u64 t, .int .u64 a, .int .u64 pm, .int .u64 now, .int .u64 kk, .int .u64 c] 27 := wB5.set 0 _
          have oB : Blk (w5.setCell ⟨w.heap.size, 0, none⟩ (.int .u64 ris)) ob #[.int .u64 0, .int .u64 0, .int .u64 0, .int .u64 0, .int .u64 0, .int .u64 0, .int .u64 0] 27 := oB5.other (show ob ≠ w.heap.size by omega) _
          have hL : Below w.heap.size w (w5.setCell ⟨w.heap.size, 0, none⟩ (.int .u64 ris)) := (Base.next hL' hw5).setCell (Nat.le_refl _) _
          clear wB5 oB5 hw5 wB' oB' hL' hl5
          generalize w5.setCell ⟨w.heap.size, 0, none⟩ (.int .u64 ris) = W6 at *
          have hlt := wB.lt
          have hl2 := oB.lt
          obtain ⟨k0, k1, k2, k3, k4, k5, k6⟩ := blk7 wB
          have z0 := wB.free 0
          have z3 := wB.free 3
          have z4 := wB.free 4
          have z5 := wB.free 5
          have z6 := wB.free 6
          go_upto_region 17 with (go_at_call 44; refine (CQ _).mono ?_; rintro e' y ⟨rfl, rfl⟩)
          refine at_any ?_
          intro X hX
          obtain ⟨wB', oB', hL'⟩ : Blk X w.heap.size #[.int .u64 ris, .int .u64 t, .int .u64 a, .int .u64 pm, .int .u64 now, .int .u64 kk, .int .u64 q] 27 ∧ Blk X ob #[.int .u64 0, .int .u64 0, .int .u64 0, .int .u64 0, .int .u64 0, .int .u64 0, .int .u64 0] 27 ∧ Below w.heap.size w X := by
            subst hX
            exact ⟨(wB.set 6 (.int .u64 q)), (oB.other (show ob ≠ w.heap.size by omega) _), (hL.setCell (Nat.le_refl _) _)⟩
          clear hX wB oB hL
          clear hlt hl2 k0 k1 k2 k3 k4 k5 k6 z0 z3 z4 z5 z6
          have wB := wB'
          have oB := oB'
          have hL := hL'
          clear wB' oB' hL'
          have hlt := wB.lt
          have hl2 := oB.lt
          obtain ⟨k0, k1, k2, k3, k4, k5, k6⟩ := blk7 wB
          have z0 := wB.free 0
          have z3 := wB.free 3
          have z4 := wB.free 4
          have z5 := wB.free 5
          have z6 := wB.free 6
          go_upto_region 18 with (refine wpl_value (v := .int .u64 fin) rfl (by rw [← HFn.out]; exact mx_u64 (.tmp 97) (.tmp 99) _ (n := ris) (m := q) rfl rfl rfl) ?_)
          refine at_any ?_
          intro X hX
          obtain ⟨wB', oB', hL'⟩ : Blk X w.heap.size #[.int .u64 fin, .int .u64 t, .int .u64 a, .int .u64 pm, .int .u64 now, .int .u64 kk, .int .u64 q] 27 ∧ Blk X ob #[.int .u64 0, .int .u64 0, .int .u64 0, .int .u64 0, .int .u64 0, .int .u64 0, .int .u64 0] 27 ∧ Below w.heap.size w X := by
            subst hX
            exact ⟨(wB.set 0 (.int .u64 fin)), (oB.other (show ob ≠ w.heap.size by omega) _), (hL.setCell (Nat.le_refl _) _)⟩
          clear hX wB oB hL
          clear hlt hl2 k0 k1 k2 k3 k4 k5 k6 z0 z3 z4 z5 z6
          have wB := wB'
          have oB := oB'
          have hL := hL'
          clear wB' oB' hL'
          have hlt := wB.lt
          have hl2 := oB.lt
          obtain ⟨k0, k1, k2, k3, k4, k5, k6⟩ := blk7 wB
          have z0 := wB.free 0
          have z3 := wB.free 3
          have z4 := wB.free 4
          have z5 := wB.free 5
          have z6 := wB.free 6
          go_wp2_with (refine wpl_store_row rfl 27 (.tmp 10) (.tmp 102) rfl oB #[.int .u64 fin, .int .u64 t, .int .u64 a, .int .u64 pm, .int .u64 now, .int .u64 kk, .int .u64 q] rfl rfl (by kernel_rfl) rfl (by simp [Value.oneCell']) ?_)
          refine bodyPost_ret (results_cell_row rfl _ _ ob 27 #[.int .u64 fin, .int .u64 t, .int .u64 a, .int .u64 pm, .int .u64 now, .int .u64 kk, .int .u64 q] (0, 0) _ rfl (oB.setRow _) Try.underlying27 rfl (by kernel_rfl)) rfl ?_
          exact ⟨rfl, below_setRow' hL (by omega)⟩
        · have CQ := fun V => Sat.ref_add c mo hF.1 hF.2 bMo.1 bMo.2 V
          have bQ := Sat.add_bd hF.1 bMo.1
          obtain ⟨q, eQ⟩ : ∃ v, Sat.add c mo = v := ⟨_, rfl⟩
          rw [eQ] at CQ bQ
          obtain ⟨fin, eFn⟩ : ∃ v, max ris q = v := ⟨_, rfl⟩
          have HFn := Lib.hid eFn
          have hG : goC ⟨c, t, a, pm, now, kk, c⟩ acked mss now smooth = ⟨fin, t, a, pm, now, kk, q⟩ := by
            unfold goC riseC fairC moreC aimC
            simp only
            rw [eSu, eAd, eAm, eDn, eMn, eAi, eRi, eRs, eMo, if_neg hfp, eQ, eFn]
          rw [hG]
          clear hG eSu eAd eAm eDn eRi eMo eM2 eRs eQ eFn
          unfold U at *
          go_enter Try.func26, Try.ntmps26
          go_upto_region 1 with fail
          refine at_any ?_
          intro W hW
          obtain ⟨wB, oB, hL⟩ : Blk W w.heap.size #[.int .u64 c, .int .u64 t, .int .u64 a, .int .u64 p, .int .u64 18446744073709551615, .int .u64 k, .int .u64 f] 27 ∧ Blk W (w.heap.size + 1) #[.int .u64 0, .int .u64 0, .int .u64 0, .int .u64 0, .int .u64 0, .int .u64 0, .int .u64 0] 27 ∧ Below w.heap.size w W := by
            have h1 := Blk.new w #[.int .u64 c, .int .u64 t, .int .u64 a, .int .u64 p, .int .u64 18446744073709551615, .int .u64 k, .int .u64 f] 27
            have h2 := Blk.new (w.alloc (.cells #[.int .u64 c, .int .u64 t, .int .u64 a, .int .u64 p, .int .u64 18446744073709551615, .int .u64 k, .int .u64 f] 27)) #[.int .u64 0, .int .u64 0, .int .u64 0, .int .u64 0, .int .u64 0, .int .u64 0, .int .u64 0] 27
            rw [World.size_alloc] at h2
            subst hW
            exact ⟨h1.alloc _, h2, ((Below.refl _ _).alloc (Nat.le_refl _) _).alloc (by simp) _⟩
          clear hW
          generalize hob : w.heap.size + 1 = ob at *
          have hlt := wB.lt
          have hl2 := oB.lt
          obtain ⟨k0, k1, k2, k3, k4, k5, k6⟩ := blk7 wB
          have z0 := wB.free 0
          have z3 := wB.free 3
          have z4 := wB.free 4
          have z5 := wB.free 5
          have z6 := wB.free 6
          go_upto_region 5 with fail
          refine at_any ?_
          intro X hX
          obtain ⟨wB', oB', hL'⟩ : Blk X w.heap.size #[.int .u64 c, .int .u64 t, .int .u64 a, .int .u64 p, .int .u64 now, .int .u64 k, .int .u64 f] 27 ∧ Blk X ob #[.int .u64 0, .int .u64 0, .int .u64 0, .int .u64 0, .int .u64 0, .int .u64 0, .int .u64 0] 27 ∧ Below w.heap.size w X := by
            subst hX
            exact ⟨(wB.set 4 (.int .u64 now)), (oB.other (show ob ≠ w.heap.size by omega) _), (hL.setCell (Nat.le_refl _) _)⟩
          clear hX wB oB hL
          clear hlt hl2 k0 k1 k2 k3 k4 k5 k6 z0 z3 z4 z5 z6
          have wB := wB'
          have oB := oB'
          have hL := hL'
          clear wB' oB' hL'
          have hlt := wB.lt
          have hl2 := oB.lt
          obtain ⟨k0, k1, k2, k3, k4, k5, k6⟩ := blk7 wB
          have z0 := wB.free 0
          have z3 := wB.free 3
          have z4 := wB.free 4
          have z5 := wB.free 5
          have z6 := wB.free 6
          go_upto_region 6 with fail
          refine at_any ?_
          intro X hX
          obtain ⟨wB', oB', hL'⟩ : Blk X w.heap.size #[.int .u64 c, .int .u64 t, .int .u64 a, .int .u64 p, .int .u64 now, .int .u64 k, .int .u64 c] 27 ∧ Blk X ob #[.int .u64 0, .int .u64 0, .int .u64 0, .int .u64 0, .int .u64 0, .int .u64 0, .int .u64 0] 27 ∧ Below w.heap.size w X := by
            subst hX
            exact ⟨(wB.set 6 (.int .u64 c)), (oB.other (show ob ≠ w.heap.size by omega) _), (hL.setCell (Nat.le_refl _) _)⟩
          clear hX wB oB hL
          clear hlt hl2 k0 k1 k2 k3 k4 k5 k6 z0 z3 z4 z5 z6
          have wB := wB'
          have oB := oB'
          have hL := hL'
          clear wB' oB' hL'
          have hlt := wB.lt
          have hl2 := oB.lt
          obtain ⟨k0, k1, k2, k3, k4, k5, k6⟩ := blk7 wB
          have z0 := wB.free 0
          have z3 := wB.free 3
          have z4 := wB.free 4
          have z5 := wB.free 5
          have z6 := wB.free 6
          go_upto_region 7 with (go_at_call 45; refine (CLg _).mono ?_; rintro e' y ⟨rfl, L1⟩; replace wB := wB.below L1 hlt; replace oB := oB.below L1 hl2; replace hL := Base.next hL L1; have hlt := wB.lt; have hl2 := oB.lt; have k5 : y.cell? ⟨w.heap.size, 5, none⟩ = some (.int .u64 k) := wB.cell 5; have z5 := wB.free 5)
          refine at_any ?_
          intro X hX
          obtain ⟨wB', oB', hL'⟩ : Blk X w.heap.size #[.int .u64 c, .int .u64 t, .int .u64 a, .int .u64 p, .int .u64 now, .int .u64 kk, .int .u64 c] 27 ∧ Blk X ob #[.int .u64 0, .int .u64 0, .int .u64 0, .int .u64 0, .int .u64 0, .int .u64 0, .int .u64 0] 27 ∧ Below w.heap.size w X := by
            subst hX
            exact ⟨(wB.set 5 (.int .u64 kk)), (oB.other (show ob ≠ w.heap.size by omega) _), (hL.setCell (Nat.le_refl _) _)⟩
          clear hX wB oB hL
          clear hlt hl2 k0 k1 k2 k3 k4 k5 k6 z0 z3 z4 z5 z6
          have wB := wB'
          have oB := oB'
          have hL := hL'
          clear wB' oB' hL'
          have hlt := wB.lt
          have hl2 := oB.lt
          obtain ⟨k0, k1, k2, k3, k4, k5, k6⟩ := blk7 wB
          have z0 := wB.free 0
          have z3 := wB.free 3
          have z4 := wB.free 4
          have z5 := wB.free 5
          have z6 := wB.free 6
          go_upto_region 8 with (refine wpl_value (v := .int .u64 pm) rfl (by rw [← HPm.out]; exact mx_u64 (.tmp 38) (.tmp 40) _ (n := p) (m := c) rfl rfl rfl) ?_)
          refine at_any ?_
          intro X hX
          obtain ⟨wB', oB', hL'⟩ : Blk X w.heap.size #[.int .u64 c, .int .u64 t, .int .u64 a, .int .u64 pm, .int .u64 now, .int .u64 kk, .int .u64 c] 27 ∧ Blk X ob #[.int .u64 0, .int .u64 0, .int .u64 0, .int .u64 0, .int .u64 0, .int .u64 0, .int .u64 0] 27 ∧ Below w.heap.size w X := by
            subst hX
            exact ⟨(wB.set 3 (.int .u64 pm)), (oB.other (show ob ≠ w.heap.size by omega) _), (hL.setCell (Nat.le_refl _) _)⟩
          clear hX wB oB hL
          clear hlt hl2 k0 k1 k2 k3 k4 k5 k6 z0 z3 z4 z5 z6
          have wB := wB'
          have oB := oB'
          have hL := hL'
          clear wB' oB' hL'
          have hlt := wB.lt
          have hl2 := oB.lt
          obtain ⟨k0, k1, k2, k3, k4, k5, k6⟩ := blk7 wB
          have z0 := wB.free 0
          have z3 := wB.free 3
          have z4 := wB.free 4
          have z5 := wB.free 5
          have z6 := wB.free 6
          go_upto_region 10 with fail
          refine at_any ?_
          intro W hW
          obtain ⟨wB', oB', hL'⟩ : Blk W w.heap.size #[.int .u64 c, .int .u64 t, .int .u64 a, .int .u64 pm, .int .u64 now, .int .u64 kk, .int .u64 c] 27 ∧ Blk W ob #[.int .u64 0, .int .u64 0, .int .u64 0, .int .u64 0, .int .u64 0, .int .u64 0, .int .u64 0] 27 ∧ Below w.heap.size w W := by
            subst hW
            exact ⟨wB, oB, hL⟩
          clear hW wB oB hL
          clear hlt hl2 k0 k1 k2 k3 k4 k5 k6 z0 z3 z4 z5 z6
          obtain ⟨k0, k1, k2, k3, k4, k5, k6⟩ := blk7 wB'
          have f3 := fun p : In (Lt W) => inCell p k3
          have f5 := fun p : In (Lt W) => inCell p k5
          have f4 := fun p : In (Lt W) => inCell p k4
          clear k0 k1 k2 k3 k4 k5 k6
          refine wp_region_in (Lt W) (Lt.drew W) (by kernel_rfl) (by kernel_rfl) ?_
          repeat (go_big_quiet_step (first | (go_at_call 47; refine in_same (v := .int .u64 su) ?_; exact CSu _) | (go_at_call 44; refine in_same (v := .int .u64 ad) ?_; exact CAd _) | (go_at_call 46; refine in_below (v := .int .u64 am) ?_; exact CAt _)))
          refine wpQuiet_nil ?_
          rintro w5 ⟨⟨_, hw5⟩, rfl⟩
          have hw5 : Below W.heap.size W w5 := hw5
          clear f3 f5 f4
          have wB := wB'.below hw5 wB'.lt
          have oB := oB'.below hw5 oB'.lt
          have hL := Base.next hL' hw5
          clear wB' oB' hL' hw5
          have hlt := wB.lt
          have hl2 := oB.lt
          obtain ⟨k0, k1, k2, k3, k4, k5, k6⟩ := blk7 wB
          have z0 := wB.free 0
          have z3 := wB.free 3
          have z4 := wB.free 4
          have z5 := wB.free 5
          have z6 := wB.free 6
          go_upto_region 11 with fail
          refine at_any ?_
          intro W hW
          obtain ⟨wB', oB', hL'⟩ : Blk W w.heap.size #[.int .u64 c, .int .u64 t, .int .u64 a, .int .u64 pm, .int .u64 now, .int .u64 kk, .int .u64 c] 27 ∧ Blk W ob #[.int .u64 0, .int .u64 0, .int .u64 0, .int .u64 0, .int .u64 0, .int .u64 0, .int .u64 0] 27 ∧ Below w.heap.size w W := by
            subst hW
            exact ⟨wB, oB, hL⟩
          clear hW wB oB hL
          clear hlt hl2 k0 k1 k2 k3 k4 k5 k6 z0 z3 z4 z5 z6
          obtain ⟨k0, k1, k2, k3, k4, k5, k6⟩ := blk7 wB'
          have f0 := fun p : In (Lt W) => inCell p k0
          clear k0 k1 k2 k3 k4 k5 k6
          refine wp_region_in (Lt W) (Lt.drew W) (by kernel_rfl) (by kernel_rfl) ?_
          repeat (go_big_quiet_step (first | (go_at_call 48; refine in_below (v := .int .u64 dn) ?_; exact CDn _)))
          refine wpQuiet_nil ?_
          rintro w5 ⟨⟨_, hw5⟩, rfl⟩
          have hw5 : Below W.heap.size W w5 := hw5
          clear f0
          have wB := wB'.below hw5 wB'.lt
          have oB := oB'.below hw5 oB'.lt
          have hL := Base.next hL' hw5
          clear wB' oB' hL' hw5
          have hlt := wB.lt
          have hl2 := oB.lt
          obtain ⟨k0, k1, k2, k3, k4, k5, k6⟩ := blk7 wB
          have z0 := wB.free 0
          have z3 := wB.free 3
          have z4 := wB.free 4
          have z5 := wB.free 5
          have z6 := wB.free 6
          go_upto_region 15 with (go_at_call 48; (with_reducible refine (CMo _).mono ?_); rintro e' y ⟨rfl, L1⟩; replace wB := wB.below L1 hlt; replace oB := oB.below L1 hl2; replace hL := Base.next hL L1; have hlt := wB.lt; have hl2 := oB.lt; have k0 : y.cell? ⟨w.heap.size, 0, none⟩ = some (.int .u64 c) := wB.cell 0; have z0 := wB.free 0; have k3 : y.cell? ⟨w.heap.size, 3, none⟩ = some (.int .u64 pm) := wB.cell 3; have z3 := wB.free 3; have k6 : y.cell? ⟨w.heap.size, 6, none⟩ = some (.int .u64 c) := wB.cell 6; have z6 := wB.free 6; clear CMo)
          refine at_any ?_
          intro W hW
          obtain ⟨wB', oB', hL'⟩ : Blk W w.heap.size #[.int .u64 c, .int .u64 t, .int .u64 a, .int .u64 pm, .int .u64 now, .int .u64 kk, .int .u64 c] 27 ∧ Blk W ob #[.int .u64 0, .int .u64 0, .int .u64 0, .int .u64 0, .int .u64 0, .int .u64 0, .int .u64 0] 27 ∧ Below w.heap.size w W := by
            subst hW
            exact ⟨wB, oB, hL⟩
          clear hW wB oB hL
          clear hlt hl2 k0 k1 k2 k3 k4 k5 k6 z0 z3 z4 z5 z6
          obtain ⟨k0, k1, k2, k3, k4, k5, k6⟩ := blk7 wB'
          have f0 := fun p : In (Lt W) => inCell p k0
          clear k0 k1 k2 k3 k4 k5 k6
          refine wp_region_rest (C := fun w' => ∃ p : In (Lt W), w' = p.w) 12 1 (by kernel_rfl) (by kernel_rfl) (by kernel_rfl) (by kernel_rfl) (by kernel_rfl) ⟨⟨W.drew, Lt.drew W⟩, rfl⟩ ?_
          simp only [List.toList_toArray, List.take_succ_cons, List.take_zero]
          repeat (go_big_quiet_step (first | (go_at_call 48; refine in_below (v := .int .u64 ri) ?_; exact CRi _) | (go_at_call 44; refine in_same (v := .int .u64 ris) ?_; exact CRs _)))
          refine wpQuiet_nil ?_
          rintro w5 ⟨⟨_, hw5⟩, rfl⟩
          have hw5 : Below W.heap.size W w5 := hw5
          clear f0 CRi CRs
          have wB5 := wB'.below hw5 wB'.lt
          have oB5 := oB'.below hw5 oB'.lt
          have hl5 := oB5.lt
          refine wpAny_of_held (S := fun _ => True) _ _ _ _ ?_
          refine held_st (i := 12) rfl (by kernel_rfl) (by kernel_rfl) (st_cell (.tmp 90) (.tmp 89) rfl (g := w.heap.size) (i := 0) (n := ris) (m := c) (by kernel_rfl) (by kernel_rfl) wB5 rfl) trivial ?_
          refine held_done (by kernel_rfl) ?_
          have wB : Blk (w5.setCell ⟨w.heap.size, 0, none⟩ (.int .u64 ris)) w.heap.size #[.int .u64 ris, .int .u64 t, .int .u64 a, .int .u64 pm, .int .u64 now, .int .u64 kk, .int .u64 c] 27 := wB5.set 0 _
          have oB : Blk (w5.setCell ⟨w.heap.size, 0, none⟩ (.int .u64 ris)) ob #[.int .u64 0, .int .u64 0, .int .u64 0, .int .u64 0, .int .u64 0, .int .u64 0, .int .u64 0] 27 := oB5.other (show ob ≠ w.heap.size by omega) _
          have hL : Below w.heap.size w (w5.setCell ⟨w.heap.size, 0, none⟩ (.int .u64 ris)) := (Base.next hL' hw5).setCell (Nat.le_refl _) _
          clear wB5 oB5 hw5 wB' oB' hL' hl5
          generalize w5.setCell ⟨w.heap.size, 0, none⟩ (.int .u64 ris) = W6 at *
          have hlt := wB.lt
          have hl2 := oB.lt
          obtain ⟨k0, k1, k2, k3, k4, k5, k6⟩ := blk7 wB
          have z0 := wB.free 0
          have z3 := wB.free 3
          have z4 := wB.free 4
          have z5 := wB.free 5
          have z6 := wB.free 6
          go_upto_region 17 with (go_at_call 44; refine (CQ _).mono ?_; rintro e' y ⟨rfl, rfl⟩)
          refine at_any ?_
          intro X hX
          obtain ⟨wB', oB', hL'⟩ : Blk X w.heap.size #[.int .u64 ris, .int .u64 t, .int .u64 a, .int .u64 pm, .int .u64 now, .int .u64 kk, .int .u64 q] 27 ∧ Blk X ob #[.int .u64 0, .int .u64 0, .int .u64 0, .int .u64 0, .int .u64 0, .int .u64 0, .int .u64 0] 27 ∧ Below w.heap.size w X := by
            subst hX
            exact ⟨(wB.set 6 (.int .u64 q)), (oB.other (show ob ≠ w.heap.size by omega) _), (hL.setCell (Nat.le_refl _) _)⟩
          clear hX wB oB hL
          clear hlt hl2 k0 k1 k2 k3 k4 k5 k6 z0 z3 z4 z5 z6
          have wB := wB'
          have oB := oB'
          have hL := hL'
          clear wB' oB' hL'
          have hlt := wB.lt
          have hl2 := oB.lt
          obtain ⟨k0, k1, k2, k3, k4, k5, k6⟩ := blk7 wB
          have z0 := wB.free 0
          have z3 := wB.free 3
          have z4 := wB.free 4
          have z5 := wB.free 5
          have z6 := wB.free 6
          go_upto_region 18 with (refine wpl_value (v := .int .u64 fin) rfl (by rw [← HFn.out]; exact mx_u64 (.tmp 97) (.tmp 99) _ (n := ris) (m := q) rfl rfl rfl) ?_)
          refine at_any ?_
          intro X hX
          obtain ⟨wB', oB', hL'⟩ : Blk X w.heap.size #[.int .u64 fin, .int .u64 t, .int .u64 a, .int .u64 pm, .int .u64 now, .int .u64 kk, .int .u64 q] 27 ∧ Blk X ob #[.int .u64 0, .int .u64 0, .int .u64 0, .int .u64 0, .int .u64 0, .int .u64 0, .int .u64 0] 27 ∧ Below w.heap.size w X := by
            subst hX
            exact ⟨(wB.set 0 (.int .u64 fin)), (oB.other (show ob ≠ w.heap.size by omega) _), (hL.setCell (Nat.le_refl _) _)⟩
          clear hX wB oB hL
          clear hlt hl2 k0 k1 k2 k3 k4 k5 k6 z0 z3 z4 z5 z6
          have wB := wB'
          have oB := oB'
          have hL := hL'
          clear wB' oB' hL'
          have hlt := wB.lt
          have hl2 := oB.lt
          obtain ⟨k0, k1, k2, k3, k4, k5, k6⟩ := blk7 wB
          have z0 := wB.free 0
          have z3 := wB.free 3
          have z4 := wB.free 4
          have z5 := wB.free 5
          have z6 := wB.free 6
          go_wp2_with (refine wpl_store_row rfl 27 (.tmp 10) (.tmp 102) rfl oB #[.int .u64 fin, .int .u64 t, .int .u64 a, .int .u64 pm, .int .u64 now, .int .u64 kk, .int .u64 q] rfl rfl (by kernel_rfl) rfl (by simp [Value.oneCell']) ?_)
          refine bodyPost_ret (results_cell_row rfl _ _ ob 27 #[.int .u64 fin, .int .u64 t, .int .u64 a, .int .u64 pm, .int .u64 now, .int .u64 kk, .int .u64 q] (0, 0) _ rfl (oB.setRow _) Try.underlying27 rfl (by kernel_rfl)) rfl ?_
          exact ⟨rfl, below_setRow' hL (by omega)⟩
    · have h2' : (e == 18446744073709551615) = false := by simpa using h2
      have hb : beginC ⟨c, t, a, p, e, k, f⟩ mss now = ⟨c, t, a, p, e, k, f⟩ := by unfold beginC; rw [if_neg h2]
      have hg0 : growC ⟨c, t, a, p, e, k, f⟩ acked mss now smooth = if c = 0 then ⟨c, t, a, p, e, k, f⟩ else goC ⟨c, t, a, p, e, k, f⟩ acked mss now smooth := by unfold growC; rw [if_neg h1, hb]
      rw [hg0]
      clear hg0 hb
      unfold WinPost
      by_cases h3 : c = 0
      · rw [if_pos h3]
        subst h3
        unfold wc
        simp only
        unfold U at *
        go_enter Try.func26, Try.ntmps26
        go_upto_region 1 with fail
        refine at_any ?_
        intro W hW
        obtain ⟨wB, oB, hL⟩ : Blk W w.heap.size #[.int .u64 0, .int .u64 t, .int .u64 a, .int .u64 p, .int .u64 e, .int .u64 k, .int .u64 f] 27 ∧ Blk W (w.heap.size + 1) #[.int .u64 0, .int .u64 0, .int .u64 0, .int .u64 0, .int .u64 0, .int .u64 0, .int .u64 0] 27 ∧ Below w.heap.size w W := by
          have h1 := Blk.new w #[.int .u64 0, .int .u64 t, .int .u64 a, .int .u64 p, .int .u64 e, .int .u64 k, .int .u64 f] 27
          have h2 := Blk.new (w.alloc (.cells #[.int .u64 0, .int .u64 t, .int .u64 a, .int .u64 p, .int .u64 e, .int .u64 k, .int .u64 f] 27)) #[.int .u64 0, .int .u64 0, .int .u64 0, .int .u64 0, .int .u64 0, .int .u64 0, .int .u64 0] 27
          rw [World.size_alloc] at h2
          subst hW
          exact ⟨h1.alloc _, h2, ((Below.refl _ _).alloc (Nat.le_refl _) _).alloc (by simp) _⟩
        clear hW
        generalize hob : w.heap.size + 1 = ob at *
        have hlt := wB.lt
        have hl2 := oB.lt
        obtain ⟨k0, k1, k2, k3, k4, k5, k6⟩ := blk7 wB
        have z0 := wB.free 0
        have z3 := wB.free 3
        have z4 := wB.free 4
        have z5 := wB.free 5
        have z6 := wB.free 6
        go_wp2_with (refine wpl_store_row rfl 27 (.tmp 10) (.tmp 46) rfl oB #[.int .u64 0, .int .u64 t, .int .u64 a, .int .u64 p, .int .u64 e, .int .u64 k, .int .u64 f] rfl rfl (by kernel_rfl) rfl (by simp [Value.oneCell']) ?_)
        refine bodyPost_ret (results_cell_row rfl _ _ ob 27 #[.int .u64 0, .int .u64 t, .int .u64 a, .int .u64 p, .int .u64 e, .int .u64 k, .int .u64 f] (0, 0) _ rfl (oB.setRow _) Try.underlying27 rfl (by kernel_rfl)) rfl ?_
        exact ⟨rfl, below_setRow' hL (by omega)⟩
      · rw [if_neg h3]
        unfold wc
        have CSu := fun V => Sat.ref_sub now e hn.1 hn.2 hE.1 hE.2 V
        have bSu := Sat.sub_bd (a := now) (b := e) hE.1 hn.2
        obtain ⟨su, eSu⟩ : ∃ v, Sat.sub now e = v := ⟨_, rfl⟩
        rw [eSu] at CSu bSu
        have CAd := fun V => Sat.ref_add su smooth bSu.1 bSu.2 hs.1 hs.2 V
        have bAd := Sat.add_bd bSu.1 hs.1
        obtain ⟨ad, eAd⟩ : ∃ v, Sat.add su smooth = v := ⟨_, rfl⟩
        rw [eAd] at CAd bAd
        have CAt := fun V => ref_at p k ad mss hP hK bAd hm V
        have bAt := atC_bd hP hK bAd hm
        obtain ⟨am, eAm⟩ : ∃ v, atC p k ad mss = v := ⟨_, rfl⟩
        rw [eAm] at CAt bAt
        have CDn := fun V => Wide.ref_down c 3 2 hC.1 hC.2 (by decide) (by decide) (by decide) (by decide) V
        have bDn := down_bd (a := c) (b := 3) (d := 2) hC.1 (by decide) (by decide)
        obtain ⟨dn, eDn⟩ : ∃ v, Wide.down c 3 2 = v := ⟨_, rfl⟩
        rw [eDn] at CDn bDn
        have m1 : (if dn < am then dn else am) = min am dn := by split <;> omega
        have bMn : U (min am dn) := by unfold U at *; omega
        obtain ⟨mn, eMn⟩ : ∃ v, min am dn = v := ⟨_, rfl⟩
        rw [eMn] at m1 bMn
        have m2 : (if c < mn then mn else c) = max c mn := by split <;> omega
        have bAi : c ≤ max c mn ∧ U (max c mn) := by unfold U at *; omega
        obtain ⟨ai, eAi⟩ : ∃ v, max c mn = v := ⟨_, rfl⟩
        rw [eAi] at m2 bAi
        have CMo := fun V => Wide.ref_down mss acked c hm.1 hm.2 ha.1 ha.2 hC.1 hC.2 V
        have bMo := down_bd (a := mss) (b := acked) (d := c) hm.1 ha.1 hC.1
        obtain ⟨mo, eMo⟩ : ∃ v, Wide.down mss acked c = v := ⟨_, rfl⟩
        rw [eMo] at CMo bMo
        have CM2 := fun V => Wide.ref_down mo 9 17 bMo.1 bMo.2 (by decide) (by decide) (by decide) (by decide) V
        have bM2 := down_bd (a := mo) (b := 9) (d := 17) bMo.1 (by decide) (by decide)
        obtain ⟨mq, eM2⟩ : ∃ v, Wide.down mo 9 17 = v := ⟨_, rfl⟩
        rw [eM2] at CM2 bM2
        have CRi := fun V => Wide.ref_down (ai - c) acked c (by unfold U at *; omega) (by unfold U at *; omega) ha.1 ha.2 hC.1 hC.2 V
        have bRi := down_bd (a := ai - c) (b := acked) (d := c) (by omega) ha.1 hC.1
        obtain ⟨ri, eRi⟩ : ∃ v, Wide.down (ai - c) acked c = v := ⟨_, rfl⟩
        rw [eRi] at CRi bRi
        have CRs := fun V => Sat.ref_add c ri hC.1 hC.2 bRi.1 bRi.2 V
        have bRs := Sat.add_bd hC.1 bRi.1
        obtain ⟨ris, eRs⟩ : ∃ v, Sat.add c ri = v := ⟨_, rfl⟩
        rw [eRs] at CRs bRs
        have eWr : IntKind.u64.wrap (ai - c) = ai - c := by rw [IntKind.wrap_u64]; unfold U at *; omega
        by_cases hfp : f < p
        · have CQ := fun V => Sat.ref_add f mq hF.1 hF.2 bM2.1 bM2.2 V
          have bQ := Sat.add_bd hF.1 bM2.1
          obtain ⟨q, eQ⟩ : ∃ v, Sat.add f mq = v := ⟨_, rfl⟩
          rw [eQ] at CQ bQ
          obtain ⟨fin, eFn⟩ : ∃ v, max ris q = v := ⟨_, rfl⟩
          have HFn := Lib.hid eFn
          have hG : goC ⟨c, t, a, p, e, k, f⟩ acked mss now smooth = ⟨fin, t, a, p, e, k, q⟩ := by
            unfold goC riseC fairC moreC aimC
            simp only
            rw [eSu, eAd, eAm, eDn, eMn, eAi, eRi, eRs, eMo, if_pos hfp, eM2, eQ, eFn]
          rw [hG]
          clear hG eSu eAd eAm eDn eRi eMo eM2 eRs eQ eFn
          unfold U at *
          go_enter Try.func26, Try.ntmps26
          go_upto_region 1 with fail
          refine at_any ?_
          intro W hW
          obtain ⟨wB, oB, hL⟩ : Blk W w.heap.size #[.int .u64 c, .int .u64 t, .int .u64 a, .int .u64 p, .int .u64 e, .int .u64 k, .int .u64 f] 27 ∧ Blk W (w.heap.size + 1) #[.int .u64 0, .int .u64 0, .int .u64 0, .int .u64 0, .int .u64 0, .int .u64 0, .int .u64 0] 27 ∧ Below w.heap.size w W := by
            have h1 := Blk.new w #[.int .u64 c, .int .u64 t, .int .u64 a, .int .u64 p, .int .u64 e, .int .u64 k, .int .u64 f] 27
            have h2 := Blk.new (w.alloc (.cells #[.int .u64 c, .int .u64 t, .int .u64 a, .int .u64 p, .int .u64 e, .int .u64 k, .int .u64 f] 27)) #[.int .u64 0, .int .u64 0, .int .u64 0, .int .u64 0, .int .u64 0, .int .u64 0, .int .u64 0] 27
            rw [World.size_alloc] at h2
            subst hW
            exact ⟨h1.alloc _, h2, ((Below.refl _ _).alloc (Nat.le_refl _) _).alloc (by simp) _⟩
          clear hW
          generalize hob : w.heap.size + 1 = ob at *
          have hlt := wB.lt
          have hl2 := oB.lt
          obtain ⟨k0, k1, k2, k3, k4, k5, k6⟩ := blk7 wB
          have z0 := wB.free 0
          have z3 := wB.free 3
          have z4 := wB.free 4
          have z5 := wB.free 5
          have z6 := wB.free 6
          go_upto_region 10 with fail
          refine at_any ?_
          intro W hW
          obtain ⟨wB', oB', hL'⟩ : Blk W w.heap.size #[.int .u64 c, .int .u64 t, .int .u64 a, .int .u64 p, .int .u64 e, .int .u64 k, .int .u64 f] 27 ∧ Blk W ob #[.int .u64 0, .int .u64 0, .int .u64 0, .int .u64 0, .int .u64 0, .int .u64 0, .int .u64 0] 27 ∧ Below w.heap.size w W := by
            subst hW
            exact ⟨wB, oB, hL⟩
          clear hW wB oB hL
          clear hlt hl2 k0 k1 k2 k3 k4 k5 k6 z0 z3 z4 z5 z6
          obtain ⟨k0, k1, k2, k3, k4, k5, k6⟩ := blk7 wB'
          have f3 := fun p : In (Lt W) => inCell p k3
          have f5 := fun p : In (Lt W) => inCell p k5
          have f4 := fun p : In (Lt W) => inCell p k4
          clear k0 k1 k2 k3 k4 k5 k6
          refine wp_region_in (Lt W) (Lt.drew W) (by kernel_rfl) (by kernel_rfl) ?_
          repeat (go_big_quiet_step (first | (go_at_call 47; refine in_same (v := .int .u64 su) ?_; exact CSu _) | (go_at_call 44; refine in_same (v := .int .u64 ad) ?_; exact CAd _) | (go_at_call 46; refine in_below (v := .int .u64 am) ?_; exact CAt _)))
          refine wpQuiet_nil ?_
          rintro w5 ⟨⟨_, hw5⟩, rfl⟩
          have hw5 : Below W.heap.size W w5 := hw5
          clear f3 f5 f4
          have wB := wB'.below hw5 wB'.lt
          have oB := oB'.below hw5 oB'.lt
          have hL := Base.next hL' hw5
          clear wB' oB' hL' hw5
          have hlt := wB.lt
          have hl2 := oB.lt
          obtain ⟨k0, k1, k2, k3, k4, k5, k6⟩ := blk7 wB
          have z0 := wB.free 0
          have z3 := wB.free 3
          have z4 := wB.free 4
          have z5 := wB.free 5
          have z6 := wB.free 6
          go_upto_region 11 with fail
          refine at_any ?_
          intro W hW
          obtain ⟨wB', oB', hL'⟩ : Blk W w.heap.size #[.int .u64 c, .int .u64 t, .int .u64 a, .int .u64 p, .int .u64 e, .int .u64 k, .int .u64 f] 27 ∧ Blk W ob #[.int .u64 0, .int .u64 0, .int .u64 0, .int .u64 0, .int .u64 0, .int .u64 0, .int .u64 0] 27 ∧ Below w.heap.size w W := by
            subst hW
            exact ⟨wB, oB, hL⟩
          clear hW wB oB hL
          clear hlt hl2 k0 k1 k2 k3 k4 k5 k6 z0 z3 z4 z5 z6
          obtain ⟨k0, k1, k2, k3, k4, k5, k6⟩ := blk7 wB'
          have f0 := fun p : In (Lt W) => inCell p k0
          clear k0 k1 k2 k3 k4 k5 k6
          refine wp_region_in (Lt W) (Lt.drew W) (by kernel_rfl) (by kernel_rfl) ?_
          repeat (go_big_quiet_step (first | (go_at_call 48; refine in_below (v := .int .u64 dn) ?_; exact CDn _)))
          refine wpQuiet_nil ?_
          rintro w5 ⟨⟨_, hw5⟩, rfl⟩
          have hw5 : Below W.heap.size W w5 := hw5
          clear f0
          have wB := wB'.below hw5 wB'.lt
          have oB := oB'.below hw5 oB'.lt
          have hL := Base.next hL' hw5
          clear wB' oB' hL' hw5
          have hlt := wB.lt
          have hl2 := oB.lt
          obtain ⟨k0, k1, k2, k3, k4, k5, k6⟩ := blk7 wB
          have z0 := wB.free 0
          have z3 := wB.free 3
          have z4 := wB.free 4
          have z5 := wB.free 5
          have z6 := wB.free 6
          go_upto_region 15 with (first
            | (go_at_call 48; (with_reducible refine (CMo _).mono ?_); rintro e' y ⟨rfl, L1⟩; replace wB := wB.below L1 hlt; replace oB := oB.below L1 hl2; replace hL := Base.next hL L1; have hlt := wB.lt; have hl2 := oB.lt; have k0 : y.cell? ⟨w.heap.size, 0, none⟩ = some (.int .u64 c) := wB.cell 0; have z0 := wB.free 0; have k3 : y.cell? ⟨w.heap.size, 3, none⟩ = some (.int .u64 p) := wB.cell 3; have z3 := wB.free 3; have k6 : y.cell? ⟨w.heap.size, 6, none⟩ = some (.int .u64 f) := wB.cell 6; have z6 := wB.free 6; clear CMo)
            | (go_at_call 48; (with_reducible refine (CM2 _).mono ?_); rintro e' y2 ⟨rfl, L2⟩; replace wB := wB.below L2 hlt; replace oB := oB.below L2 hl2; replace hL := Base.next hL L2; have hlt := wB.lt; have hl2 := oB.lt; have k0 : y2.cell? ⟨w.heap.size, 0, none⟩ = some (.int .u64 c) := wB.cell 0; have z0 := wB.free 0; have k3 : y2.cell? ⟨w.heap.size, 3, none⟩ = some (.int .u64 p) := wB.cell 3; have z3 := wB.free 3; have k6 : y2.cell? ⟨w.heap.size, 6, none⟩ = some (.int .u64 f) := wB.cell 6; have z6 := wB.free 6; clear CM2))
          refine at_any ?_
          intro W hW
          obtain ⟨wB', oB', hL'⟩ : Blk W w.heap.size #[.int .u64 c, .int .u64 t, .int .u64 a, .int .u64 p, .int .u64 e, .int .u64 k, .int .u64 f] 27 ∧ Blk W ob #[.int .u64 0, .int .u64 0, .int .u64 0, .int .u64 0, .int .u64 0, .int .u64 0, .int .u64 0] 27 ∧ Below w.heap.size w W := by
            subst hW
            exact ⟨wB, oB, hL⟩
          clear hW wB oB hL
          clear hlt hl2 k0 k1 k2 k3 k4 k5 k6 z0 z3 z4 z5 z6
          obtain ⟨k0, k1, k2, k3, k4, k5, k6⟩ := blk7 wB'
          have f0 := fun p : In (Lt W) => inCell p k0
          clear k0 k1 k2 k3 k4 k5 k6
          refine wp_region_rest (C := fun w' => ∃ p : In (Lt W), w' = p.w) 12 1 (by kernel_rfl) (by kernel_rfl) (by kernel_rfl) (by kernel_rfl) (by kernel_rfl) ⟨⟨W.drew, Lt.drew W⟩, rfl⟩ ?_
          simp only [List.toList_toArray, List.take_succ_cons, List.take_zero]
          repeat (go_big_quiet_step (first | (go_at_call 48; refine in_below (v := .int .u64 ri) ?_; exact CRi _) | (go_at_call 44; refine in_same (v := .int .u64 ris) ?_; exact CRs _)))
          refine wpQuiet_nil ?_
          rintro w5 ⟨⟨_, hw5⟩, rfl⟩
          have hw5 : Below W.heap.size W w5 := hw5
          clear f0 CRi CRs
          have wB5 := wB'.below hw5 wB'.lt
          have oB5 := oB'.below hw5 oB'.lt
          have hl5 := oB5.lt
          refine wpAny_of_held (S := fun _ => True) _ _ _ _ ?_
          refine held_st (i := 12) rfl (by kernel_rfl) (by kernel_rfl) (st_cell (.tmp 90) (.tmp 89) rfl (g := w.heap.size) (i := 0) (n := ris) (m := c) (by kernel_rfl) (by kernel_rfl) wB5 rfl) trivial ?_
          refine held_done (by kernel_rfl) ?_
          have wB : Blk (w5.setCell ⟨w.heap.size, 0, none⟩ (.int .u64 ris)) w.heap.size #[.int .u64 ris, .int .u64 t, .int .u64 a, .int .u64 p, .int .u64 e, .int .u64 k, .int .u64 f] 27 := wB5.set 0 _
          have oB : Blk (w5.setCell ⟨w.heap.size, 0, none⟩ (.int .u64 ris)) ob #[.int .u64 0, .int .u64 0, .int .u64 0, .int .u64 0, .int .u64 0, .int .u64 0, .int .u64 0] 27 := oB5.other (show ob ≠ w.heap.size by omega) _
          have hL : Below w.heap.size w (w5.setCell ⟨w.heap.size, 0, none⟩ (.int .u64 ris)) := (Base.next hL' hw5).setCell (Nat.le_refl _) _
          clear wB5 oB5 hw5 wB' oB' hL' hl5
          generalize w5.setCell ⟨w.heap.size, 0, none⟩ (.int .u64 ris) = W6 at *
          have hlt := wB.lt
          have hl2 := oB.lt
          obtain ⟨k0, k1, k2, k3, k4, k5, k6⟩ := blk7 wB
          have z0 := wB.free 0
          have z3 := wB.free 3
          have z4 := wB.free 4
          have z5 := wB.free 5
          have z6 := wB.free 6
          go_upto_region 17 with (go_at_call 44; refine (CQ _).mono ?_; rintro e' y ⟨rfl, rfl⟩)
          refine at_any ?_
          intro X hX
          obtain ⟨wB', oB', hL'⟩ : Blk X w.heap.size #[.int .u64 ris, .int .u64 t, .int .u64 a, .int .u64 p, .int .u64 e, .int .u64 k, .int .u64 q] 27 ∧ Blk X ob #[.int .u64 0, .int .u64 0, .int .u64 0, .int .u64 0, .int .u64 0, .int .u64 0, .int .u64 0] 27 ∧ Below w.heap.size w X := by
            subst hX
            exact ⟨(wB.set 6 (.int .u64 q)), (oB.other (show ob ≠ w.heap.size by omega) _), (hL.setCell (Nat.le_refl _) _)⟩
          clear hX wB oB hL
          clear hlt hl2 k0 k1 k2 k3 k4 k5 k6 z0 z3 z4 z5 z6
          have wB := wB'
          have oB := oB'
          have hL := hL'
          clear wB' oB' hL'
          have hlt := wB.lt
          have hl2 := oB.lt
          obtain ⟨k0, k1, k2, k3, k4, k5, k6⟩ := blk7 wB
          have z0 := wB.free 0
          have z3 := wB.free 3
          have z4 := wB.free 4
          have z5 := wB.free 5
          have z6 := wB.free 6
          go_upto_region 18 with (refine wpl_value (v := .int .u64 fin) rfl (by rw [← HFn.out]; exact mx_u64 (.tmp 97) (.tmp 99) _ (n := ris) (m := q) rfl rfl rfl) ?_)
          refine at_any ?_
          intro X hX
          obtain ⟨wB', oB', hL'⟩ : Blk X w.heap.size #[.int .u64 fin, .int .u64 t, .int .u64 a, .int .u64 p, .int .u64 e, .int .u64 k, .int .u64 q] 27 ∧ Blk X ob #[.int .u64 0, .int .u64 0, .int .u64 0, .int .u64 0, .int .u64 0, .int .u64 0, .int .u64 0] 27 ∧ Below w.heap.size w X := by
            subst hX
            exact ⟨(wB.set 0 (.int .u64 fin)), (oB.other (show ob ≠ w.heap.size by omega) _), (hL.setCell (Nat.le_refl _) _)⟩
          clear hX wB oB hL
          clear hlt hl2 k0 k1 k2 k3 k4 k5 k6 z0 z3 z4 z5 z6
          have wB := wB'
          have oB := oB'
          have hL := hL'
          clear wB' oB' hL'
          have hlt := wB.lt
          have hl2 := oB.lt
          obtain ⟨k0, k1, k2, k3, k4, k5, k6⟩ := blk7 wB
          have z0 := wB.free 0
          have z3 := wB.free 3
          have z4 := wB.free 4
          have z5 := wB.free 5
          have z6 := wB.free 6
          go_wp2_with (refine wpl_store_row rfl 27 (.tmp 10) (.tmp 102) rfl oB #[.int .u64 fin, .int .u64 t, .int .u64 a, .int .u64 p, .int .u64 e, .int .u64 k, .int .u64 q] rfl rfl (by kernel_rfl) rfl (by simp [Value.oneCell']) ?_)
          refine bodyPost_ret (results_cell_row rfl _ _ ob 27 #[.int .u64 fin, .int .u64 t, .int .u64 a, .int .u64 p, .int .u64 e, .int .u64 k, .int .u64 q] (0, 0) _ rfl (oB.setRow _) Try.underlying27 rfl (by kernel_rfl)) rfl ?_
          exact ⟨rfl, below_setRow' hL (by omega)⟩
        · have CQ := fun V => Sat.ref_add f mo hF.1 hF.2 bMo.1 bMo.2 V
          have bQ := Sat.add_bd hF.1 bMo.1
          obtain ⟨q, eQ⟩ : ∃ v, Sat.add f mo = v := ⟨_, rfl⟩
          rw [eQ] at CQ bQ
          obtain ⟨fin, eFn⟩ : ∃ v, max ris q = v := ⟨_, rfl⟩
          have HFn := Lib.hid eFn
          have hG : goC ⟨c, t, a, p, e, k, f⟩ acked mss now smooth = ⟨fin, t, a, p, e, k, q⟩ := by
            unfold goC riseC fairC moreC aimC
            simp only
            rw [eSu, eAd, eAm, eDn, eMn, eAi, eRi, eRs, eMo, if_neg hfp, eQ, eFn]
          rw [hG]
          clear hG eSu eAd eAm eDn eRi eMo eM2 eRs eQ eFn
          unfold U at *
          go_enter Try.func26, Try.ntmps26
          go_upto_region 1 with fail
          refine at_any ?_
          intro W hW
          obtain ⟨wB, oB, hL⟩ : Blk W w.heap.size #[.int .u64 c, .int .u64 t, .int .u64 a, .int .u64 p, .int .u64 e, .int .u64 k, .int .u64 f] 27 ∧ Blk W (w.heap.size + 1) #[.int .u64 0, .int .u64 0, .int .u64 0, .int .u64 0, .int .u64 0, .int .u64 0, .int .u64 0] 27 ∧ Below w.heap.size w W := by
            have h1 := Blk.new w #[.int .u64 c, .int .u64 t, .int .u64 a, .int .u64 p, .int .u64 e, .int .u64 k, .int .u64 f] 27
            have h2 := Blk.new (w.alloc (.cells #[.int .u64 c, .int .u64 t, .int .u64 a, .int .u64 p, .int .u64 e, .int .u64 k, .int .u64 f] 27)) #[.int .u64 0, .int .u64 0, .int .u64 0, .int .u64 0, .int .u64 0, .int .u64 0, .int .u64 0] 27
            rw [World.size_alloc] at h2
            subst hW
            exact ⟨h1.alloc _, h2, ((Below.refl _ _).alloc (Nat.le_refl _) _).alloc (by simp) _⟩
          clear hW
          generalize hob : w.heap.size + 1 = ob at *
          have hlt := wB.lt
          have hl2 := oB.lt
          obtain ⟨k0, k1, k2, k3, k4, k5, k6⟩ := blk7 wB
          have z0 := wB.free 0
          have z3 := wB.free 3
          have z4 := wB.free 4
          have z5 := wB.free 5
          have z6 := wB.free 6
          go_upto_region 10 with fail
          refine at_any ?_
          intro W hW
          obtain ⟨wB', oB', hL'⟩ : Blk W w.heap.size #[.int .u64 c, .int .u64 t, .int .u64 a, .int .u64 p, .int .u64 e, .int .u64 k, .int .u64 f] 27 ∧ Blk W ob #[.int .u64 0, .int .u64 0, .int .u64 0, .int .u64 0, .int .u64 0, .int .u64 0, .int .u64 0] 27 ∧ Below w.heap.size w W := by
            subst hW
            exact ⟨wB, oB, hL⟩
          clear hW wB oB hL
          clear hlt hl2 k0 k1 k2 k3 k4 k5 k6 z0 z3 z4 z5 z6
          obtain ⟨k0, k1, k2, k3, k4, k5, k6⟩ := blk7 wB'
          have f3 := fun p : In (Lt W) => inCell p k3
          have f5 := fun p : In (Lt W) => inCell p k5
          have f4 := fun p : In (Lt W) => inCell p k4
          clear k0 k1 k2 k3 k4 k5 k6
          refine wp_region_in (Lt W) (Lt.drew W) (by kernel_rfl) (by kernel_rfl) ?_
          repeat (go_big_quiet_step (first | (go_at_call 47; refine in_same (v := .int .u64 su) ?_; exact CSu _) | (go_at_call 44; refine in_same (v := .int .u64 ad) ?_; exact CAd _) | (go_at_call 46; refine in_below (v := .int .u64 am) ?_; exact CAt _)))
          refine wpQuiet_nil ?_
          rintro w5 ⟨⟨_, hw5⟩, rfl⟩
          have hw5 : Below W.heap.size W w5 := hw5
          clear f3 f5 f4
          have wB := wB'.below hw5 wB'.lt
          have oB := oB'.below hw5 oB'.lt
          have hL := Base.next hL' hw5
          clear wB' oB' hL' hw5
          have hlt := wB.lt
          have hl2 := oB.lt
          obtain ⟨k0, k1, k2, k3, k4, k5, k6⟩ := blk7 wB
          have z0 := wB.free 0
          have z3 := wB.free 3
          have z4 := wB.free 4
          have z5 := wB.free 5
          have z6 := wB.free 6
          go_upto_region 11 with fail
          refine at_any ?_
          intro W hW
          obtain ⟨wB', oB', hL'⟩ : Blk W w.heap.size #[.int .u64 c, .int .u64 t, .int .u64 a, .int .u64 p, .int .u64 e, .int .u64 k, .int .u64 f] 27 ∧ Blk W ob #[.int .u64 0, .int .u64 0, .int .u64 0, .int .u64 0, .int .u64 0, .int .u64 0, .int .u64 0] 27 ∧ Below w.heap.size w W := by
            subst hW
            exact ⟨wB, oB, hL⟩
          clear hW wB oB hL
          clear hlt hl2 k0 k1 k2 k3 k4 k5 k6 z0 z3 z4 z5 z6
          obtain ⟨k0, k1, k2, k3, k4, k5, k6⟩ := blk7 wB'
          have f0 := fun p : In (Lt W) => inCell p k0
          clear k0 k1 k2 k3 k4 k5 k6
          refine wp_region_in (Lt W) (Lt.drew W) (by kernel_rfl) (by kernel_rfl) ?_
          repeat (go_big_quiet_step (first | (go_at_call 48; refine in_below (v := .int .u64 dn) ?_; exact CDn _)))
          refine wpQuiet_nil ?_
          rintro w5 ⟨⟨_, hw5⟩, rfl⟩
          have hw5 : Below W.heap.size W w5 := hw5
          clear f0
          have wB := wB'.below hw5 wB'.lt
          have oB := oB'.below hw5 oB'.lt
          have hL := Base.next hL' hw5
          clear wB' oB' hL' hw5
          have hlt := wB.lt
          have hl2 := oB.lt
          obtain ⟨k0, k1, k2, k3, k4, k5, k6⟩ := blk7 wB
          have z0 := wB.free 0
          have z3 := wB.free 3
          have z4 := wB.free 4
          have z5 := wB.free 5
          have z6 := wB.free 6
          go_upto_region 15 with (go_at_call 48; (with_reducible refine (CMo _).mono ?_); rintro e' y ⟨rfl, L1⟩; replace wB := wB.below L1 hlt; replace oB := oB.below L1 hl2; replace hL := Base.next hL L1; have hlt := wB.lt; have hl2 := oB.lt; have k0 : y.cell? ⟨w.heap.size, 0, none⟩ = some (.int .u64 c) := wB.cell 0; have z0 := wB.free 0; have k3 : y.cell? ⟨w.heap.size, 3, none⟩ = some (.int .u64 p) := wB.cell 3; have z3 := wB.free 3; have k6 : y.cell? ⟨w.heap.size, 6, none⟩ = some (.int .u64 f) := wB.cell 6; have z6 := wB.free 6; clear CMo)
          refine at_any ?_
          intro W hW
          obtain ⟨wB', oB', hL'⟩ : Blk W w.heap.size #[.int .u64 c, .int .u64 t, .int .u64 a, .int .u64 p, .int .u64 e, .int .u64 k, .int .u64 f] 27 ∧ Blk W ob #[.int .u64 0, .int .u64 0, .int .u64 0, .int .u64 0, .int .u64 0, .int .u64 0, .int .u64 0] 27 ∧ Below w.heap.size w W := by
            subst hW
            exact ⟨wB, oB, hL⟩
          clear hW wB oB hL
          clear hlt hl2 k0 k1 k2 k3 k4 k5 k6 z0 z3 z4 z5 z6
          obtain ⟨k0, k1, k2, k3, k4, k5, k6⟩ := blk7 wB'
          have f0 := fun p : In (Lt W) => inCell p k0
          clear k0 k1 k2 k3 k4 k5 k6
          refine wp_region_rest (C := fun w' => ∃ p : In (Lt W), w' = p.w) 12 1 (by kernel_rfl) (by kernel_rfl) (by kernel_rfl) (by kernel_rfl) (by kernel_rfl) ⟨⟨W.drew, Lt.drew W⟩, rfl⟩ ?_
          simp only [List.toList_toArray, List.take_succ_cons, List.take_zero]
          repeat (go_big_quiet_step (first | (go_at_call 48; refine in_below (v := .int .u64 ri) ?_; exact CRi _) | (go_at_call 44; refine in_same (v := .int .u64 ris) ?_; exact CRs _)))
          refine wpQuiet_nil ?_
          rintro w5 ⟨⟨_, hw5⟩, rfl⟩
          have hw5 : Below W.heap.size W w5 := hw5
          clear f0 CRi CRs
          have wB5 := wB'.below hw5 wB'.lt
          have oB5 := oB'.below hw5 oB'.lt
          have hl5 := oB5.lt
          refine wpAny_of_held (S := fun _ => True) _ _ _ _ ?_
          refine held_st (i := 12) rfl (by kernel_rfl) (by kernel_rfl) (st_cell (.tmp 90) (.tmp 89) rfl (g := w.heap.size) (i := 0) (n := ris) (m := c) (by kernel_rfl) (by kernel_rfl) wB5 rfl) trivial ?_
          refine held_done (by kernel_rfl) ?_
          have wB : Blk (w5.setCell ⟨w.heap.size, 0, none⟩ (.int .u64 ris)) w.heap.size #[.int .u64 ris, .int .u64 t, .int .u64 a, .int .u64 p, .int .u64 e, .int .u64 k, .int .u64 f] 27 := wB5.set 0 _
          have oB : Blk (w5.setCell ⟨w.heap.size, 0, none⟩ (.int .u64 ris)) ob #[.int .u64 0, .int .u64 0, .int .u64 0, .int .u64 0, .int .u64 0, .int .u64 0, .int .u64 0] 27 := oB5.other (show ob ≠ w.heap.size by omega) _
          have hL : Below w.heap.size w (w5.setCell ⟨w.heap.size, 0, none⟩ (.int .u64 ris)) := (Base.next hL' hw5).setCell (Nat.le_refl _) _
          clear wB5 oB5 hw5 wB' oB' hL' hl5
          generalize w5.setCell ⟨w.heap.size, 0, none⟩ (.int .u64 ris) = W6 at *
          have hlt := wB.lt
          have hl2 := oB.lt
          obtain ⟨k0, k1, k2, k3, k4, k5, k6⟩ := blk7 wB
          have z0 := wB.free 0
          have z3 := wB.free 3
          have z4 := wB.free 4
          have z5 := wB.free 5
          have z6 := wB.free 6
          go_upto_region 17 with (go_at_call 44; refine (CQ _).mono ?_; rintro e' y ⟨rfl, rfl⟩)
          refine at_any ?_
          intro X hX
          obtain ⟨wB', oB', hL'⟩ : Blk X w.heap.size #[.int .u64 ris, .int .u64 t, .int .u64 a, .int .u64 p, .int .u64 e, .int .u64 k, .int .u64 q] 27 ∧ Blk X ob #[.int .u64 0, .int .u64 0, .int .u64 0, .int .u64 0, .int .u64 0, .int .u64 0, .int .u64 0] 27 ∧ Below w.heap.size w X := by
            subst hX
            exact ⟨(wB.set 6 (.int .u64 q)), (oB.other (show ob ≠ w.heap.size by omega) _), (hL.setCell (Nat.le_refl _) _)⟩
          clear hX wB oB hL
          clear hlt hl2 k0 k1 k2 k3 k4 k5 k6 z0 z3 z4 z5 z6
          have wB := wB'
          have oB := oB'
          have hL := hL'
          clear wB' oB' hL'
          have hlt := wB.lt
          have hl2 := oB.lt
          obtain ⟨k0, k1, k2, k3, k4, k5, k6⟩ := blk7 wB
          have z0 := wB.free 0
          have z3 := wB.free 3
          have z4 := wB.free 4
          have z5 := wB.free 5
          have z6 := wB.free 6
          go_upto_region 18 with (refine wpl_value (v := .int .u64 fin) rfl (by rw [← HFn.out]; exact mx_u64 (.tmp 97) (.tmp 99) _ (n := ris) (m := q) rfl rfl rfl) ?_)
          refine at_any ?_
          intro X hX
          obtain ⟨wB', oB', hL'⟩ : Blk X w.heap.size #[.int .u64 fin, .int .u64 t, .int .u64 a, .int .u64 p, .int .u64 e, .int .u64 k, .int .u64 q] 27 ∧ Blk X ob #[.int .u64 0, .int .u64 0, .int .u64 0, .int .u64 0, .int .u64 0, .int .u64 0, .int .u64 0] 27 ∧ Below w.heap.size w X := by
            subst hX
            exact ⟨(wB.set 0 (.int .u64 fin)), (oB.other (show ob ≠ w.heap.size by omega) _), (hL.setCell (Nat.le_refl _) _)⟩
          clear hX wB oB hL
          clear hlt hl2 k0 k1 k2 k3 k4 k5 k6 z0 z3 z4 z5 z6
          have wB := wB'
          have oB := oB'
          have hL := hL'
          clear wB' oB' hL'
          have hlt := wB.lt
          have hl2 := oB.lt
          obtain ⟨k0, k1, k2, k3, k4, k5, k6⟩ := blk7 wB
          have z0 := wB.free 0
          have z3 := wB.free 3
          have z4 := wB.free 4
          have z5 := wB.free 5
          have z6 := wB.free 6
          go_wp2_with (refine wpl_store_row rfl 27 (.tmp 10) (.tmp 102) rfl oB #[.int .u64 fin, .int .u64 t, .int .u64 a, .int .u64 p, .int .u64 e, .int .u64 k, .int .u64 q] rfl rfl (by kernel_rfl) rfl (by simp [Value.oneCell']) ?_)
          refine bodyPost_ret (results_cell_row rfl _ _ ob 27 #[.int .u64 fin, .int .u64 t, .int .u64 a, .int .u64 p, .int .u64 e, .int .u64 k, .int .u64 q] (0, 0) _ rfl (oB.setRow _) Try.underlying27 rfl (by kernel_rfl)) rfl ?_
          exact ⟨rfl, below_setRow' hL (by omega)⟩
end Go.Proofs.Ytnnpklnhdfpnjaa.Cubic
