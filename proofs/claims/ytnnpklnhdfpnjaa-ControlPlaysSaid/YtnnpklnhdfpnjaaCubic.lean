/-
  The program's CUBIC windows by contract.
-/
import Derived.Test.YtnnpklnhdfpnjaaCubicRef
import Derived.Test.YtnnpklnhdfpnjaaReno
import Derived.Test.YtnnpklnhdfpnjaaClock
set_option linter.unusedSimpArgs false
set_option linter.unusedVariables false
namespace Go.Proofs.Ytnnpklnhdfpnjaa.Cubic
set_option linter.unusedVariables false
set_option maxRecDepth 20000
open Go.ChangeShapes Go.WideShapes Go.ChangeAt Go.RowKit
open Go.Proofs.Ytnnpklnhdfpnjaa.Base Go.Proofs.Ytnnpklnhdfpnjaa.RenoPlain Go.Proofs.Ytnnpklnhdfpnjaa.CubicPlain Go.Proofs.Ytnnpklnhdfpnjaa.Reno Go.Proofs.Ytnnpklnhdfpnjaa.Hop

theorem down_turn (a b d : Int) : Wide.down a b d = Wide.down b a d := by unfold Wide.down; rw [Int.mul_comm a b]
theorem up_half {c : Int} (hc : U c) : c ≤ Wide.down c 3 2 := by
  unfold U at hc
  unfold Wide.down
  split <;> omega
theorem clamp_mid {x lo hi : Int} (h : lo ≤ hi) : Sat.clamp x lo hi = max lo (min x hi) := by
  unfold Sat.clamp
  split
  · omega
  · split <;> omega
theorem atC_any (peak k t mss : Int) (hP : U peak) (hK : U k) (ht : U t) (hm : U mss) (w : World) :
    Calls Try.prog 63 #[.int .u64 peak, .int .u64 k, .int .u64 t, .int .u64 mss] w fun e w' => e = .returned (.int .u64 (atC peak k t mss)) ∧ Below w.heap.size w w' := by
  have C1 := fun V => Sat.diff_any t k ht.1 ht.2 hK.1 hK.2 V
  have b1 := Sat.diff_bd ht.1 hK.1 ht.2 hK.2
  unfold atC atZ
  generalize Sat.diff t k = d at *
  have C2 := fun V => Wide.down_any d d 1000000 b1.1 b1.2 b1.1 b1.2 (by decide) (by decide) V
  have b2 := down_bd (d := 1000000) b1.1 b1.1 (by decide)
  generalize Wide.down d d 1000000 = x at *
  have C3 := fun V => Wide.down_any x d 1000000 b2.1 b2.2 b1.1 b1.2 (by decide) (by decide) V
  have b3 := down_bd (d := 1000000) b2.1 b1.1 (by decide)
  generalize Wide.down x d 1000000 = y at *
  have C4 := fun V => Sat.mul_any 2 mss (by decide) (by decide) hm.1 hm.2 V
  have b4 := mul_bd (show (0 : Int) ≤ 2 by decide) hm.1
  generalize Sat.mul 2 mss = mm at *
  have C5 := fun V => Wide.down_any y mm 5000000 b3.1 b3.2 b4.1 b4.2 (by decide) (by decide) V
  have b5 := down_bd (d := 5000000) b3.1 b4.1 (by decide)
  generalize Wide.down y mm 5000000 = z at *
  have C6 := fun V => Sat.add_any peak z hP.1 hP.2 b5.1 b5.2 V
  have C7 := fun V => Sat.sub_any peak z hP.1 hP.2 b5.1 b5.2 V
  by_cases h : k ≤ t
  · rw [if_pos h]
    go_enter Try.func63, Try.ntmps63
    go_wp2_with (first
      | (go_at_call 77; refine (C1 _).mono ?_; rintro e w1 ⟨rfl, rfl⟩)
      | (go_at_call 38; (with_reducible refine (C2 _).mono ?_); rintro e w2 ⟨rfl, L2⟩; clear C2)
      | (go_at_call 38; (with_reducible refine (C3 _).mono ?_); rintro e w3 ⟨rfl, L3⟩; have M3 := Base.next L2 L3; clear C3)
      | (go_at_call 57; refine (C4 _).mono ?_; rintro e w4 ⟨rfl, rfl⟩)
      | (go_at_call 38; (with_reducible refine (C5 _).mono ?_); rintro e w5 ⟨rfl, L5⟩; have M5 := Base.next M3 L5)
      | (go_at_call 37; refine (C6 _).mono ?_; rintro e w6 ⟨rfl, rfl⟩))
    go_ret
    exact ⟨rfl, M5⟩
  · rw [if_neg h]
    go_enter Try.func63, Try.ntmps63
    go_wp2_with (first
      | (go_at_call 77; refine (C1 _).mono ?_; rintro e w1 ⟨rfl, rfl⟩)
      | (go_at_call 38; (with_reducible refine (C2 _).mono ?_); rintro e w2 ⟨rfl, L2⟩; clear C2)
      | (go_at_call 38; (with_reducible refine (C3 _).mono ?_); rintro e w3 ⟨rfl, L3⟩; have M3 := Base.next L2 L3; clear C3)
      | (go_at_call 57; refine (C4 _).mono ?_; rintro e w4 ⟨rfl, rfl⟩)
      | (go_at_call 38; (with_reducible refine (C5 _).mono ?_); rintro e w5 ⟨rfl, L5⟩; have M5 := Base.next M3 L5)
      | (go_at_call 76; refine (C7 _).mono ?_; rintro e w6 ⟨rfl, rfl⟩))
    go_ret
    exact ⟨rfl, M5⟩
set_option maxHeartbeats 1000000 in
theorem long_any (peak cw mss : Int) (hP : U peak) (hC : U cw) (hm : U mss) (w : World) :
    Calls Try.prog 58 #[.int .u64 peak, .int .u64 cw, .int .u64 mss] w fun e w' => e = .returned (.int .u64 (longC peak cw mss)) ∧ Below w.heap.size w w' := by
  unfold longC
  by_cases h1 : peak ≤ cw
  · rw [if_pos (.inl h1)]
    go_enter Try.func58, Try.ntmps58
    go_wp2
    go_ret
    exact ⟨rfl, Below.refl _ _⟩
  · by_cases h2 : mss = 0
    · rw [if_pos (.inr h2)]
      subst h2
      go_enter Try.func58, Try.ntmps58
      go_wp2
      go_ret
      exact ⟨rfl, Below.refl _ _⟩
    · rw [if_neg (by omega)]
      unfold U at hP hC hm
      have hmp : 0 < mss := by omega
      have CT := fun V => Wide.mul_any (peak - cw) 2500000000000000000 (by omega) (by omega) (by decide) (by decide) V
      have hX0 : 0 ≤ (peak - cw) * 2500000000000000000 := by omega
      have hX1 : (peak - cw) * 2500000000000000000 < 18446744073709551616 * 18446744073709551616 := by omega
      have hD := two_div (X := (peak - cw) * 2500000000000000000) (m := mss) (B := 18446744073709551616) hmp (by decide)
      have hN0 := Int.ediv_nonneg hX0 hm.1
      have hN1 : (peak - cw) * 2500000000000000000 / mss ≤ (peak - cw) * 2500000000000000000 := Int.ediv_le_self _ hX0
      have hH0 : 0 ≤ (peak - cw) * 2500000000000000000 / 18446744073709551616 := by omega
      have hH1 : (peak - cw) * 2500000000000000000 / 18446744073709551616 ≤ 18446744073709551615 := by omega
      have hL0 : 0 ≤ (peak - cw) * 2500000000000000000 % 18446744073709551616 := by omega
      have hL1 : (peak - cw) * 2500000000000000000 % 18446744073709551616 ≤ 18446744073709551615 := by omega
      have hroot := cbrt_is hN0 (by omega)
      generalize (peak - cw) * 2500000000000000000 / mss = N at *
      generalize (peak - cw) * 2500000000000000000 / 18446744073709551616 = hi at *
      generalize (peak - cw) * 2500000000000000000 % 18446744073709551616 = lo at *
      have hr0 := Int.emod_nonneg hi (show mss ≠ 0 by omega)
      have hr1 := Int.emod_lt_of_pos hi hmp
      have hq0 := Int.ediv_nonneg hH0 hm.1
      have hq1 : hi / mss ≤ hi := Int.ediv_le_self _ hH0
      have CD1 := fun V => Wide.div_yes 0 hi mss (by decide) hmp hH0 hH1 hm.2 V
      simp only [Int.zero_mul, Int.zero_add] at CD1
      have CDv := fun V => Wide.div_yes (hi % mss) lo mss hr0 hr1 hL0 hL1 hm.2 V
      have hqb : 0 ≤ (hi % mss * 18446744073709551616 + lo) / mss ∧ (hi % mss * 18446744073709551616 + lo) / mss ≤ 18446744073709551615 := by
        refine ⟨Int.ediv_nonneg (by omega) hm.1, ?_⟩
        have : (hi % mss * 18446744073709551616 + lo) / mss < 18446744073709551616 := Int.ediv_lt_of_lt_mul hmp (by omega)
        omega
      generalize hi % mss = r at *
      generalize (r * 18446744073709551616 + lo) % mss = r2 at *
      generalize (r * 18446744073709551616 + lo) / mss = q at *
      have CCu := fun V => Root.cube_root (hi / mss) q hq0 (by omega) hqb.1 hqb.2 V
      rw [hD] at CCu
      generalize hi / mss = hq at *
      have HR := Lib.hid hroot
      have esu : IntKind.u64.wrap (peak - cw) = peak - cw := by rw [IntKind.wrap_u64]; omega
      clear hroot hD hX0 hX1 hN0 hN1
      go_enter Try.func58, Try.ntmps58
      go_wp2_with (first
        | (go_at_call 73; refine (CT _).mono ?_; rintro e w1 ⟨rfl, rfl⟩)
        | (go_at_call 74; (with_reducible refine (CD1 _).mono ?_); rintro e w2 ⟨rfl, L2⟩; clear CD1)
        | (go_at_call 74; (with_reducible refine (CDv _).mono ?_); rintro e w3 ⟨rfl, L3⟩; have M3 := Base.next L2 L3; clear CDv)
        | (go_at_call 75; refine (CCu _).mono ?_; rintro e w4 ⟨z, rfl, hz, rfl⟩))
      go_ret
      exact ⟨by rw [Go.Proofs.Ytnnpklnhdfpnjaa.Root.root_one hz HR.out]; rfl, M3⟩
theorem fair_any (x : Wn) (hx : WFit x) (r : Int) (hr : U r) (w : World) :
    Calls Try.prog 40 #[.agg (wc x), .int .u64 r] w fun e w' => e = .returned (.int .u64 (Sat.add x.fr (if x.fr < x.pk then Wide.down r 9 17 else r))) ∧ Below w.heap.size w w' := by
  obtain ⟨hC, hT, hA, hP, hE, hK, hF⟩ := hx
  obtain ⟨c, t, a, p, e, k, f⟩ := x
  simp only at hC hT hA hP hE hK hF
  unfold wc
  simp only
  have CD := fun V => Wide.down_any 9 r 17 (by decide) (by decide) hr.1 hr.2 (by decide) (by decide) V
  rw [down_turn] at CD
  have b1 := down_bd (a := r) (b := 9) (d := 17) hr.1 (by decide) (by decide)
  generalize Wide.down r 9 17 = q at *
  by_cases h : f < p
  · rw [if_pos h]
    have CA := fun V => Sat.add_any f q hF.1 hF.2 b1.1 b1.2 V
    unfold U at *
    go_enter Try.func40, Try.ntmps40
    go_upto_region 1 with fail
    refine at_any ?_
    intro W hW
    obtain ⟨wB, hL⟩ : Blk W w.heap.size #[.int .u64 c, .int .u64 t, .int .u64 a, .int .u64 p, .int .u64 e, .int .u64 k, .int .u64 f] 27 ∧ Below w.heap.size w W := by
      have h1 := Blk.new w #[.int .u64 c, .int .u64 t, .int .u64 a, .int .u64 p, .int .u64 e, .int .u64 k, .int .u64 f] 27
      subst hW
      exact ⟨h1, (Below.refl _ _).alloc (Nat.le_refl _) _⟩
    clear hW
    have hlt := wB.lt
    obtain ⟨k0, k1, k2, k3, k4, k5, k6⟩ := blk7 wB
    go_wp2_with (first
      | (go_at_call 38; refine (CD _).mono ?_; rintro e' y ⟨rfl, L1⟩; replace wB := wB.below L1 hlt; replace hL := Base.next hL L1; have hlt := wB.lt; have k6 : y.cell? ⟨w.heap.size, 6, none⟩ = some (.int .u64 f) := wB.cell 6)
      | (go_at_call 37; refine (CA _).mono ?_; rintro e' y ⟨rfl, rfl⟩))
    go_ret
    exact ⟨rfl, hL⟩
  · rw [if_neg h]
    have CA := fun V => Sat.add_any f r hF.1 hF.2 hr.1 hr.2 V
    unfold U at *
    go_enter Try.func40, Try.ntmps40
    go_upto_region 1 with fail
    refine at_any ?_
    intro W hW
    obtain ⟨wB, hL⟩ : Blk W w.heap.size #[.int .u64 c, .int .u64 t, .int .u64 a, .int .u64 p, .int .u64 e, .int .u64 k, .int .u64 f] 27 ∧ Below w.heap.size w W := by
      have h1 := Blk.new w #[.int .u64 c, .int .u64 t, .int .u64 a, .int .u64 p, .int .u64 e, .int .u64 k, .int .u64 f] 27
      subst hW
      exact ⟨h1, (Below.refl _ _).alloc (Nat.le_refl _) _⟩
    clear hW
    have hlt := wB.lt
    obtain ⟨k0, k1, k2, k3, k4, k5, k6⟩ := blk7 wB
    go_wp2_with (go_at_call 37; refine (CA _).mono ?_; rintro e' y ⟨rfl, rfl⟩)
    go_ret
    exact ⟨rfl, hL⟩
set_option maxHeartbeats 1000000 in
theorem target_any (x : Wn) (hx : WFit x) (mss now smooth : Int) (hm : U mss) (hn : U now) (hs : U smooth) (w : World) :
    Calls Try.prog 39 #[.agg (wc x), .int .u64 mss, .int .u64 now, .int .u64 smooth] w fun e w' => e = .returned (.int .u64 (aimC x mss now smooth)) ∧ Below w.heap.size w w' := by
  obtain ⟨hC, hT, hA, hP, hE, hK, hF⟩ := hx
  obtain ⟨c, t, a, p, e, k, f⟩ := x
  simp only at hC hT hA hP hE hK hF
  unfold wc aimC
  simp only
  have CSu := fun V => Clock.since_any now e hn.1 hn.2 hE.1 hE.2 V
  have bSu := Sat.sub_bd (a := now) (b := e) hE.1 hn.2
  generalize Sat.sub now e = su at *
  have CAd := fun V => Clock.after_any su smooth bSu.1 bSu.2 hs.1 hs.2 V
  have bAd := Sat.add_bd bSu.1 hs.1
  generalize Sat.add su smooth = ad at *
  have CAt := fun V => atC_any p k ad mss hP hK bAd hm V
  generalize atC p k ad mss = am at *
  have CDn := fun V => Wide.down_any 3 c 2 (by decide) (by decide) hC.1 hC.2 (by decide) (by decide) V
  rw [down_turn] at CDn
  have hup := up_half hC
  generalize Wide.down c 3 2 = dn at *
  have CCl := fun V => Sat.clamp_any am c dn V
  rw [clamp_mid hup] at CCl
  generalize max c (min am dn) = ai at *
  unfold U at *
  go_enter Try.func39, Try.ntmps39
  go_upto_region 1 with fail
  refine at_any ?_
  intro W hW
  obtain ⟨wB, hL⟩ : Blk W w.heap.size #[.int .u64 c, .int .u64 t, .int .u64 a, .int .u64 p, .int .u64 e, .int .u64 k, .int .u64 f] 27 ∧ Below w.heap.size w W := by
    have h1 := Blk.new w #[.int .u64 c, .int .u64 t, .int .u64 a, .int .u64 p, .int .u64 e, .int .u64 k, .int .u64 f] 27
    subst hW
    exact ⟨h1, (Below.refl _ _).alloc (Nat.le_refl _) _⟩
  clear hW
  have hlt := wB.lt
  obtain ⟨k0, k1, k2, k3, k4, k5, k6⟩ := blk7 wB
  go_upto_region 2 with (first
    | (go_at_call 62; refine (CSu _).mono ?_; rintro e' y ⟨rfl, rfl⟩)
    | (go_at_call 61; refine (CAd _).mono ?_; rintro e' y ⟨rfl, rfl⟩))
  have f0 := fun p : In (Lt W) => inCell p k0
  have f3 := fun p : In (Lt W) => inCell p k3
  have f5 := fun p : In (Lt W) => inCell p k5
  clear k0 k1 k2 k3 k4 k5 k6
  refine wp_region_in (Lt W) (Lt.drew W) (by kernel_rfl) (by kernel_rfl) ?_
  repeat (go_big_quiet_step (first | (go_at_call 63; refine in_below (v := .int .u64 am) ?_; exact CAt _) | (go_at_call 38; refine in_below (v := .int .u64 dn) ?_; exact CDn _) | (go_at_call 41; refine in_same (v := .int .u64 ai) ?_; exact CCl _)))
  refine wpQuiet_nil ?_
  rintro w5 ⟨⟨_, hw5⟩, rfl⟩
  have hw5 : Below W.heap.size W w5 := hw5
  go_wp2
  go_ret
  exact ⟨rfl, Base.next hL hw5⟩
set_option maxHeartbeats 2000000 in
theorem begin_any (x : Wn) (hx : WFit x) (mss now : Int) (hm : U mss) (hn : U now) (w : World) :
    Calls Try.prog 36 #[.agg (wc x), .int .u64 mss, .int .u64 now] w (WinPost w { x with ep := now, fr := x.cw, k := longC x.pk x.cw mss, pk := max x.pk x.cw }) := by
  obtain ⟨hC, hT, hA, hP, hE, hK, hF⟩ := hx
  obtain ⟨c, t, a, p, e, k, f⟩ := x
  simp only at hC hT hA hP hE hK hF
  unfold WinPost wc
  simp only
  have CL := fun V => long_any p c mss hP hC hm V
  generalize longC p c mss = kk at *
  generalize hpm : max p c = pm at *
  have HPm := Lib.hid hpm
  clear hpm
  unfold U at *
  go_enter Try.func36, Try.ntmps36
  go_upto_region 1 with fail
  refine at_any ?_
  intro W hW
  obtain ⟨wB, oB, hL⟩ : Blk W w.heap.size #[.int .u64 c, .int .u64 t, .int .u64 a, .int .u64 p, .int .u64 e, .int .u64 k, .int .u64 f] 27 ∧ Blk W (w.heap.size + 1) #[.int .u64 0, .int .u64 0, .int .u64 0, .int .u64 0, .int .u64 0, .int .u64 0, .int .u64 0] 27 ∧ Below w.heap.size w W := by
    have h1 := Blk.new w #[.int .u64 c, .int .u64 t, .int .u64 a, .int .u64 p, .int .u64 e, .int .u64 k, .int .u64 f] 27
    have h2 := Blk.new (w.alloc (.cells #[.int .u64 c, .int .u64 t, .int .u64 a, .int .u64 p, .int .u64 e, .int .u64 k, .int .u64 f] 27)) #[.int .u64 0, .int .u64 0, .int .u64 0, .int .u64 0, .int .u64 0, .int .u64 0, .int .u64 0] 27
    rw [World.size_alloc] at h2
    subst hW
    exact ⟨h1.alloc _, h2, ((Below.refl _ _).alloc (Nat.le_refl _) _).alloc (by simp) _⟩
  clear hW
  generalize hob : w.heap.size + 1 = ob at *
  have hlt := wB.lt
  have hl2 := oB.lt
  obtain ⟨k0, k1, k2, k3, k4, k5, k6⟩ := blk7 wB
  have z0 := wB.free 0
  have z3 := wB.free 3
  have z4 := wB.free 4
  have z5 := wB.free 5
  have z6 := wB.free 6
  go_upto_region 2 with fail
  refine at_any ?_
  intro X hX
  obtain ⟨wB', oB', hL'⟩ : Blk X w.heap.size #[.int .u64 c, .int .u64 t, .int .u64 a, .int .u64 p, .int .u64 now, .int .u64 k, .int .u64 f] 27 ∧ Blk X ob #[.int .u64 0, .int .u64 0, .int .u64 0, .int .u64 0, .int .u64 0, .int .u64 0, .int .u64 0] 27 ∧ Below w.heap.size w X := by
    subst hX
    exact ⟨(wB.set 4 (.int .u64 now)), (oB.other (show ob ≠ w.heap.size by omega) _), (hL.setCell (Nat.le_refl _) _)⟩
  clear hX wB oB hL
  clear hlt hl2 k0 k1 k2 k3 k4 k5 k6 z0 z3 z4 z5 z6
  have wB := wB'
  have oB := oB'
  have hL := hL'
  clear wB' oB' hL'
  have hlt := wB.lt
  have hl2 := oB.lt
  obtain ⟨k0, k1, k2, k3, k4, k5, k6⟩ := blk7 wB
  have z0 := wB.free 0
  have z3 := wB.free 3
  have z4 := wB.free 4
  have z5 := wB.free 5
  have z6 := wB.free 6
  go_upto_region 3 with fail
  refine at_any ?_
  intro X hX
  obtain ⟨wB', oB', hL'⟩ : Blk X w.heap.size #[.int .u64 c, .int .u64 t, .int .u64 a, .int .u64 p, .int .u64 now, .int .u64 k, .int .u64 c] 27 ∧ Blk X ob #[.int .u64 0, .int .u64 0, .int .u64 0, .int .u64 0, .int .u64 0, .int .u64 0, .int .u64 0] 27 ∧ Below w.heap.size w X := by
    subst hX
    exact ⟨(wB.set 6 (.int .u64 c)), (oB.other (show ob ≠ w.heap.size by omega) _), (hL.setCell (Nat.le_refl _) _)⟩
  clear hX wB oB hL
  clear hlt hl2 k0 k1 k2 k3 k4 k5 k6 z0 z3 z4 z5 z6
  have wB := wB'
  have oB := oB'
  have hL := hL'
  clear wB' oB' hL'
  have hlt := wB.lt
  have hl2 := oB.lt
  obtain ⟨k0, k1, k2, k3, k4, k5, k6⟩ := blk7 wB
  have z0 := wB.free 0
  have z3 := wB.free 3
  have z4 := wB.free 4
  have z5 := wB.free 5
  have z6 := wB.free 6
  go_upto_region 4 with (go_at_call 58; refine (CL _).mono ?_; rintro e' y ⟨rfl, L1⟩; replace wB := wB.below L1 hlt; replace oB := oB.below L1 hl2; replace hL := Base.next hL L1; have hlt := wB.lt; have hl2 := oB.lt; have k0 : y.cell? ⟨w.heap.size, 0, none⟩ = some (.int .u64 c) := wB.cell 0; have z0 := wB.free 0; have k1 : y.cell? ⟨w.heap.size, 1, none⟩ = some (.int .u64 t) := wB.cell 1; have z1 := wB.free 1; have k2 : y.cell? ⟨w.heap.size, 2, none⟩ = some (.int .u64 a) := wB.cell 2; have z2 := wB.free 2; have k3 : y.cell? ⟨w.heap.size, 3, none⟩ = some (.int .u64 p) := wB.cell 3; have z3 := wB.free 3; have k4 : y.cell? ⟨w.heap.size, 4, none⟩ = some (.int .u64 now) := wB.cell 4; have z4 := wB.free 4; have k5 : y.cell? ⟨w.heap.size, 5, none⟩ = some (.int .u64 k) := wB.cell 5; have z5 := wB.free 5; have k6 : y.cell? ⟨w.heap.size, 6, none⟩ = some (.int .u64 c) := wB.cell 6; have z6 := wB.free 6)
  refine at_any ?_
  intro X hX
  obtain ⟨wB', oB', hL'⟩ : Blk X w.heap.size #[.int .u64 c, .int .u64 t, .int .u64 a, .int .u64 p, .int .u64 now, .int .u64 kk, .int .u64 c] 27 ∧ Blk X ob #[.int .u64 0, .int .u64 0, .int .u64 0, .int .u64 0, .int .u64 0, .int .u64 0, .int .u64 0] 27 ∧ Below w.heap.size w X := by
    subst hX
    exact ⟨(wB.set 5 (.int .u64 kk)), (oB.other (show ob ≠ w.heap.size by omega) _), (hL.setCell (Nat.le_refl _) _)⟩
  clear hX wB oB hL
  clear hlt hl2 k0 k1 k2 k3 k4 k5 k6 z0 z3 z4 z5 z6
  have wB := wB'
  have oB := oB'
  have hL := hL'
  clear wB' oB' hL'
  have hlt := wB.lt
  have hl2 := oB.lt
  obtain ⟨k0, k1, k2, k3, k4, k5, k6⟩ := blk7 wB
  have z0 := wB.free 0
  have z3 := wB.free 3
  have z4 := wB.free 4
  have z5 := wB.free 5
  have z6 := wB.free 6
  go_upto_region 5 with (refine wpl_value (v := .int .u64 pm) rfl (by rw [← HPm.out]; exact mx_u64 (.tmp 20) (.tmp 22) _ (n := p) (m := c) rfl rfl rfl) ?_)
  refine at_any ?_
  intro X hX
  obtain ⟨wB', oB', hL'⟩ : Blk X w.heap.size #[.int .u64 c, .int .u64 t, .int .u64 a, .int .u64 pm, .int .u64 now, .int .u64 kk, .int .u64 c] 27 ∧ Blk X ob #[.int .u64 0, .int .u64 0, .int .u64 0, .int .u64 0, .int .u64 0, .int .u64 0, .int .u64 0] 27 ∧ Below w.heap.size w X := by
    subst hX
    exact ⟨(wB.set 3 (.int .u64 pm)), (oB.other (show ob ≠ w.heap.size by omega) _), (hL.setCell (Nat.le_refl _) _)⟩
  clear hX wB oB hL
  clear hlt hl2 k0 k1 k2 k3 k4 k5 k6 z0 z3 z4 z5 z6
  have wB := wB'
  have oB := oB'
  have hL := hL'
  clear wB' oB' hL'
  have hlt := wB.lt
  have hl2 := oB.lt
  obtain ⟨k0, k1, k2, k3, k4, k5, k6⟩ := blk7 wB
  have z0 := wB.free 0
  have z3 := wB.free 3
  have z4 := wB.free 4
  have z5 := wB.free 5
  have z6 := wB.free 6
  go_wp2_with (refine wpl_store_row rfl 27 (.tmp 6) (.tmp 25) rfl oB #[.int .u64 c, .int .u64 t, .int .u64 a, .int .u64 pm, .int .u64 now, .int .u64 kk, .int .u64 c] rfl rfl (by kernel_rfl) rfl (by simp [Value.oneCell']) ?_)
  refine bodyPost_ret (results_cell_row rfl _ _ ob 27 #[.int .u64 c, .int .u64 t, .int .u64 a, .int .u64 pm, .int .u64 now, .int .u64 kk, .int .u64 c] (0, 0) _ rfl (oB.setRow _) Try.underlying27 rfl (by kernel_rfl)) rfl ?_
  exact ⟨rfl, below_setRow' hL (by omega)⟩
set_option maxHeartbeats 2000000 in
theorem cut_any (x : Wn) (hx : WFit x) (num den : Int) (ha : U num) (hm : U den) (w : World) :
    Calls Try.prog 53 #[.agg (wc x), .int .u64 num, .int .u64 den] w (WinPost w (cutC x num den)) := by
  have CR := fun V => Reno.cut_any x hx num den ha hm V
  have hC := hx.cw
  obtain ⟨c, t, a, p, e, k, f⟩ := x
  unfold cutC WinPost wc
  unfold cutR WinPost wc at CR
  simp only at hC CR ⊢
  generalize Wide.down c num den = d at *
  have CP := fun V => Wide.down_any c 17 20 hC.1 hC.2 (by decide) (by decide) (by decide) (by decide) V
  generalize Wide.down c 17 20 = pp at *
  by_cases h1 : p ≤ c
  · rw [if_pos h1]
    have h1' : ¬ c < p := by omega
    go_enter Try.func53, Try.ntmps53
    go_upto_region 1 with fail
    refine at_any ?_
    intro W hW
    obtain ⟨wB, oB, hL⟩ : Blk W w.heap.size #[.int .u64 c, .int .u64 t, .int .u64 a, .int .u64 p, .int .u64 e, .int .u64 k, .int .u64 f] 27 ∧ Blk W (w.heap.size + 1) #[.int .u64 0, .int .u64 0, .int .u64 0, .int .u64 0, .int .u64 0, .int .u64 0, .int .u64 0] 27 ∧ Below w.heap.size w W := by
      have h1 := Blk.new w #[.int .u64 c, .int .u64 t, .int .u64 a, .int .u64 p, .int .u64 e, .int .u64 k, .int .u64 f] 27
      have h2 := Blk.new (w.alloc (.cells #[.int .u64 c, .int .u64 t, .int .u64 a, .int .u64 p, .int .u64 e, .int .u64 k, .int .u64 f] 27)) #[.int .u64 0, .int .u64 0, .int .u64 0, .int .u64 0, .int .u64 0, .int .u64 0, .int .u64 0] 27
      rw [World.size_alloc] at h2
      subst hW
      exact ⟨h1.alloc _, h2, ((Below.refl _ _).alloc (Nat.le_refl _) _).alloc (by simp) _⟩
    clear hW
    generalize hob : w.heap.size + 1 = ob at *
    have hlt := wB.lt
    have hl2 := oB.lt
    obtain ⟨k0, k1, k2, k3, k4, k5, k6⟩ := blk7 wB
    have z0 := wB.free 0
    have z3 := wB.free 3
    have z4 := wB.free 4
    have z5 := wB.free 5
    have z6 := wB.free 6
    go_upto_region 5 with (first
      | (go_at_call 38; refine (CP _).mono ?_; rintro e' y ⟨rfl, L1⟩; replace wB := wB.below L1 hlt; replace oB := oB.below L1 hl2; replace hL := Base.next hL L1; have hlt := wB.lt; have hl2 := oB.lt; have k0 : y.cell? ⟨w.heap.size, 0, none⟩ = some (.int .u64 c) := wB.cell 0; have z0 := wB.free 0; have k1 : y.cell? ⟨w.heap.size, 1, none⟩ = some (.int .u64 t) := wB.cell 1; have z1 := wB.free 1; have k2 : y.cell? ⟨w.heap.size, 2, none⟩ = some (.int .u64 a) := wB.cell 2; have z2 := wB.free 2; have k3 : y.cell? ⟨w.heap.size, 3, none⟩ = some (.int .u64 p) := wB.cell 3; have z3 := wB.free 3; have k4 : y.cell? ⟨w.heap.size, 4, none⟩ = some (.int .u64 e) := wB.cell 4; have z4 := wB.free 4; have k5 : y.cell? ⟨w.heap.size, 5, none⟩ = some (.int .u64 k) := wB.cell 5; have z5 := wB.free 5; have k6 : y.cell? ⟨w.heap.size, 6, none⟩ = some (.int .u64 f) := wB.cell 6; have z6 := wB.free 6)
      | (go_at_call 54; refine (CR _).mono ?_; rintro e' y ⟨rfl, L1⟩; replace wB := wB.below L1 hlt; replace oB := oB.below L1 hl2; replace hL := Base.next hL L1; have hlt := wB.lt; have hl2 := oB.lt)
      | (refine wpl_store_row rfl 27 (.tmp 3) (.tmp 19) rfl wB #[.int .u64 d, .int .u64 d, .int .u64 0, .int .u64 p, .int .u64 e, .int .u64 k, .int .u64 f] rfl rfl (by kernel_rfl) rfl (by simp [Value.oneCell']) ?_))
    refine at_any ?_
    intro X hX
    obtain ⟨wB', oB', hL'⟩ : Blk X w.heap.size #[.int .u64 d, .int .u64 d, .int .u64 0, .int .u64 p, .int .u64 e, .int .u64 k, .int .u64 f] 27 ∧ Blk X ob #[.int .u64 0, .int .u64 0, .int .u64 0, .int .u64 0, .int .u64 0, .int .u64 0, .int .u64 0] 27 ∧ Below w.heap.size w X := by
      subst hX
      exact ⟨wB.setRow _, oB.otherRow (show ob ≠ w.heap.size by omega) _, below_setRow' hL (Nat.le_refl _)⟩
    clear hX wB oB hL
    clear hlt hl2 k0 k1 k2 k3 k4 k5 k6 z0 z3 z4 z5 z6
    have wB := wB'
    have oB := oB'
    have hL := hL'
    clear wB' oB' hL'
    have hlt := wB.lt
    have hl2 := oB.lt
    obtain ⟨k0, k1, k2, k3, k4, k5, k6⟩ := blk7 wB
    have z0 := wB.free 0
    have z3 := wB.free 3
    have z4 := wB.free 4
    have z5 := wB.free 5
    have z6 := wB.free 6
    go_upto_region 6 with fail
    refine at_any ?_
    intro X hX
    obtain ⟨wB', oB', hL'⟩ : Blk X w.heap.size #[.int .u64 d, .int .u64 d, .int .u64 0, .int .u64 c, .int .u64 e, .int .u64 k, .int .u64 f] 27 ∧ Blk X ob #[.int .u64 0, .int .u64 0, .int .u64 0, .int .u64 0, .int .u64 0, .int .u64 0, .int .u64 0] 27 ∧ Below w.heap.size w X := by
      subst hX
      exact ⟨(wB.set 3 (.int .u64 c)), (oB.other (show ob ≠ w.heap.size by omega) _), (hL.setCell (Nat.le_refl _) _)⟩
    clear hX wB oB hL
    clear hlt hl2 k0 k1 k2 k3 k4 k5 k6 z0 z3 z4 z5 z6
    have wB := wB'
    have oB := oB'
    have hL := hL'
    clear wB' oB' hL'
    have hlt := wB.lt
    have hl2 := oB.lt
    obtain ⟨k0, k1, k2, k3, k4, k5, k6⟩ := blk7 wB
    have z0 := wB.free 0
    have z3 := wB.free 3
    have z4 := wB.free 4
    have z5 := wB.free 5
    have z6 := wB.free 6
    go_upto_region 7 with fail
    refine at_any ?_
    intro X hX
    obtain ⟨wB', oB', hL'⟩ : Blk X w.heap.size #[.int .u64 d, .int .u64 d, .int .u64 0, .int .u64 c, .int .u64 e, .int .u64 0, .int .u64 f] 27 ∧ Blk X ob #[.int .u64 0, .int .u64 0, .int .u64 0, .int .u64 0, .int .u64 0, .int .u64 0, .int .u64 0] 27 ∧ Below w.heap.size w X := by
      subst hX
      exact ⟨(wB.set 5 (.int .u64 0)), (oB.other (show ob ≠ w.heap.size by omega) _), (hL.setCell (Nat.le_refl _) _)⟩
    clear hX wB oB hL
    clear hlt hl2 k0 k1 k2 k3 k4 k5 k6 z0 z3 z4 z5 z6
    have wB := wB'
    have oB := oB'
    have hL := hL'
    clear wB' oB' hL'
    have hlt := wB.lt
    have hl2 := oB.lt
    obtain ⟨k0, k1, k2, k3, k4, k5, k6⟩ := blk7 wB
    have z0 := wB.free 0
    have z3 := wB.free 3
    have z4 := wB.free 4
    have z5 := wB.free 5
    have z6 := wB.free 6
    go_upto_region 8 with fail
    refine at_any ?_
    intro X hX
    obtain ⟨wB', oB', hL'⟩ : Blk X w.heap.size #[.int .u64 d, .int .u64 d, .int .u64 0, .int .u64 c, .int .u64 e, .int .u64 0, .int .u64 0] 27 ∧ Blk X ob #[.int .u64 0, .int .u64 0, .int .u64 0, .int .u64 0, .int .u64 0, .int .u64 0, .int .u64 0] 27 ∧ Below w.heap.size w X := by
      subst hX
      exact ⟨(wB.set 6 (.int .u64 0)), (oB.other (show ob ≠ w.heap.size by omega) _), (hL.setCell (Nat.le_refl _) _)⟩
    clear hX wB oB hL
    clear hlt hl2 k0 k1 k2 k3 k4 k5 k6 z0 z3 z4 z5 z6
    have wB := wB'
    have oB := oB'
    have hL := hL'
    clear wB' oB' hL'
    have hlt := wB.lt
    have hl2 := oB.lt
    obtain ⟨k0, k1, k2, k3, k4, k5, k6⟩ := blk7 wB
    have z0 := wB.free 0
    have z3 := wB.free 3
    have z4 := wB.free 4
    have z5 := wB.free 5
    have z6 := wB.free 6
    go_upto_region 9 with fail
    refine at_any ?_
    intro X hX
    obtain ⟨wB', oB', hL'⟩ : Blk X w.heap.size #[.int .u64 d, .int .u64 d, .int .u64 0, .int .u64 c, .int .u64 18446744073709551615, .int .u64 0, .int .u64 0] 27 ∧ Blk X ob #[.int .u64 0, .int .u64 0, .int .u64 0, .int .u64 0, .int .u64 0, .int .u64 0, .int .u64 0] 27 ∧ Below w.heap.size w X := by
      subst hX
      exact ⟨(wB.set 4 (.int .u64 18446744073709551615)), (oB.other (show ob ≠ w.heap.size by omega) _), (hL.setCell (Nat.le_refl _) _)⟩
    clear hX wB oB hL
    clear hlt hl2 k0 k1 k2 k3 k4 k5 k6 z0 z3 z4 z5 z6
    have wB := wB'
    have oB := oB'
    have hL := hL'
    clear wB' oB' hL'
    have hlt := wB.lt
    have hl2 := oB.lt
    obtain ⟨k0, k1, k2, k3, k4, k5, k6⟩ := blk7 wB
    have z0 := wB.free 0
    have z3 := wB.free 3
    have z4 := wB.free 4
    have z5 := wB.free 5
    have z6 := wB.free 6
    go_wp2_with (refine wpl_store_row rfl 27 (.tmp 6) (.tmp 25) rfl oB #[.int .u64 d, .int .u64 d, .int .u64 0, .int .u64 c, .int .u64 18446744073709551615, .int .u64 0, .int .u64 0] rfl rfl (by kernel_rfl) rfl (by simp [Value.oneCell']) ?_)
    refine bodyPost_ret (results_cell_row rfl _ _ ob 27 #[.int .u64 d, .int .u64 d, .int .u64 0, .int .u64 c, .int .u64 18446744073709551615, .int .u64 0, .int .u64 0] (0, 0) _ rfl (oB.setRow _) Try.underlying27 rfl (by kernel_rfl)) rfl ?_
    exact ⟨rfl, below_setRow' hL (by omega)⟩
  · rw [if_neg h1]
    have h1' : c < p := by omega
    go_enter Try.func53, Try.ntmps53
    go_upto_region 1 with fail
    refine at_any ?_
    intro W hW
    obtain ⟨wB, oB, hL⟩ : Blk W w.heap.size #[.int .u64 c, .int .u64 t, .int .u64 a, .int .u64 p, .int .u64 e, .int .u64 k, .int .u64 f] 27 ∧ Blk W (w.heap.size + 1) #[.int .u64 0, .int .u64 0, .int .u64 0, .int .u64 0, .int .u64 0, .int .u64 0, .int .u64 0] 27 ∧ Below w.heap.size w W := by
      have h1 := Blk.new w #[.int .u64 c, .int .u64 t, .int .u64 a, .int .u64 p, .int .u64 e, .int .u64 k, .int .u64 f] 27
      have h2 := Blk.new (w.alloc (.cells #[.int .u64 c, .int .u64 t, .int .u64 a, .int .u64 p, .int .u64 e, .int .u64 k, .int .u64 f] 27)) #[.int .u64 0, .int .u64 0, .int .u64 0, .int .u64 0, .int .u64 0, .int .u64 0, .int .u64 0] 27
      rw [World.size_alloc] at h2
      subst hW
      exact ⟨h1.alloc _, h2, ((Below.refl _ _).alloc (Nat.le_refl _) _).alloc (by simp) _⟩
    clear hW
    generalize hob : w.heap.size + 1 = ob at *
    have hlt := wB.lt
    have hl2 := oB.lt
    obtain ⟨k0, k1, k2, k3, k4, k5, k6⟩ := blk7 wB
    have z0 := wB.free 0
    have z3 := wB.free 3
    have z4 := wB.free 4
    have z5 := wB.free 5
    have z6 := wB.free 6
    go_upto_region 5 with (first
      | (go_at_call 38; refine (CP _).mono ?_; rintro e' y ⟨rfl, L1⟩; replace wB := wB.below L1 hlt; replace oB := oB.below L1 hl2; replace hL := Base.next hL L1; have hlt := wB.lt; have hl2 := oB.lt; have k0 : y.cell? ⟨w.heap.size, 0, none⟩ = some (.int .u64 c) := wB.cell 0; have z0 := wB.free 0; have k1 : y.cell? ⟨w.heap.size, 1, none⟩ = some (.int .u64 t) := wB.cell 1; have z1 := wB.free 1; have k2 : y.cell? ⟨w.heap.size, 2, none⟩ = some (.int .u64 a) := wB.cell 2; have z2 := wB.free 2; have k3 : y.cell? ⟨w.heap.size, 3, none⟩ = some (.int .u64 p) := wB.cell 3; have z3 := wB.free 3; have k4 : y.cell? ⟨w.heap.size, 4, none⟩ = some (.int .u64 e) := wB.cell 4; have z4 := wB.free 4; have k5 : y.cell? ⟨w.heap.size, 5, none⟩ = some (.int .u64 k) := wB.cell 5; have z5 := wB.free 5; have k6 : y.cell? ⟨w.heap.size, 6, none⟩ = some (.int .u64 f) := wB.cell 6; have z6 := wB.free 6)
      | (go_at_call 54; refine (CR _).mono ?_; rintro e' y ⟨rfl, L1⟩; replace wB := wB.below L1 hlt; replace oB := oB.below L1 hl2; replace hL := Base.next hL L1; have hlt := wB.lt; have hl2 := oB.lt)
      | (refine wpl_store_row rfl 27 (.tmp 3) (.tmp 19) rfl wB #[.int .u64 d, .int .u64 d, .int .u64 0, .int .u64 p, .int .u64 e, .int .u64 k, .int .u64 f] rfl rfl (by kernel_rfl) rfl (by simp [Value.oneCell']) ?_))
    refine at_any ?_
    intro X hX
    obtain ⟨wB', oB', hL'⟩ : Blk X w.heap.size #[.int .u64 d, .int .u64 d, .int .u64 0, .int .u64 p, .int .u64 e, .int .u64 k, .int .u64 f] 27 ∧ Blk X ob #[.int .u64 0, .int .u64 0, .int .u64 0, .int .u64 0, .int .u64 0, .int .u64 0, .int .u64 0] 27 ∧ Below w.heap.size w X := by
      subst hX
      exact ⟨wB.setRow _, oB.otherRow (show ob ≠ w.heap.size by omega) _, below_setRow' hL (Nat.le_refl _)⟩
    clear hX wB oB hL
    clear hlt hl2 k0 k1 k2 k3 k4 k5 k6 z0 z3 z4 z5 z6
    have wB := wB'
    have oB := oB'
    have hL := hL'
    clear wB' oB' hL'
    have hlt := wB.lt
    have hl2 := oB.lt
    obtain ⟨k0, k1, k2, k3, k4, k5, k6⟩ := blk7 wB
    have z0 := wB.free 0
    have z3 := wB.free 3
    have z4 := wB.free 4
    have z5 := wB.free 5
    have z6 := wB.free 6
    go_upto_region 6 with fail
    refine at_any ?_
    intro X hX
    obtain ⟨wB', oB', hL'⟩ : Blk X w.heap.size #[.int .u64 d, .int .u64 d, .int .u64 0, .int .u64 pp, .int .u64 e, .int .u64 k, .int .u64 f] 27 ∧ Blk X ob #[.int .u64 0, .int .u64 0, .int .u64 0, .int .u64 0, .int .u64 0, .int .u64 0, .int .u64 0] 27 ∧ Below w.heap.size w X := by
      subst hX
      exact ⟨(wB.set 3 (.int .u64 pp)), (oB.other (show ob ≠ w.heap.size by omega) _), (hL.setCell (Nat.le_refl _) _)⟩
    clear hX wB oB hL
    clear hlt hl2 k0 k1 k2 k3 k4 k5 k6 z0 z3 z4 z5 z6
    have wB := wB'
    have oB := oB'
    have hL := hL'
    clear wB' oB' hL'
    have hlt := wB.lt
    have hl2 := oB.lt
    obtain ⟨k0, k1, k2, k3, k4, k5, k6⟩ := blk7 wB
    have z0 := wB.free 0
    have z3 := wB.free 3
    have z4 := wB.free 4
    have z5 := wB.free 5
    have z6 := wB.free 6
    go_upto_region 7 with fail
    refine at_any ?_
    intro X hX
    obtain ⟨wB', oB', hL'⟩ : Blk X w.heap.size #[.int .u64 d, .int .u64 d, .int .u64 0, .int .u64 pp, .int .u64 e, .int .u64 0, .int .u64 f] 27 ∧ Blk X ob #[.int .u64 0, .int .u64 0, .int .u64 0, .int .u64 0, .int .u64 0, .int .u64 0, .int .u64 0] 27 ∧ Below w.heap.size w X := by
      subst hX
      exact ⟨(wB.set 5 (.int .u64 0)), (oB.other (show ob ≠ w.heap.size by omega) _), (hL.setCell (Nat.le_refl _) _)⟩
    clear hX wB oB hL
    clear hlt hl2 k0 k1 k2 k3 k4 k5 k6 z0 z3 z4 z5 z6
    have wB := wB'
    have oB := oB'
    have hL := hL'
    clear wB' oB' hL'
    have hlt := wB.lt
    have hl2 := oB.lt
    obtain ⟨k0, k1, k2, k3, k4, k5, k6⟩ := blk7 wB
    have z0 := wB.free 0
    have z3 := wB.free 3
    have z4 := wB.free 4
    have z5 := wB.free 5
    have z6 := wB.free 6
    go_upto_region 8 with fail
    refine at_any ?_
    intro X hX
    obtain ⟨wB', oB', hL'⟩ : Blk X w.heap.size #[.int .u64 d, .int .u64 d, .int .u64 0, .int .u64 pp, .int .u64 e, .int .u64 0, .int .u64 0] 27 ∧ Blk X ob #[.int .u64 0, .int .u64 0, .int .u64 0, .int .u64 0, .int .u64 0, .int .u64 0, .int .u64 0] 27 ∧ Below w.heap.size w X := by
      subst hX
      exact ⟨(wB.set 6 (.int .u64 0)), (oB.other (show ob ≠ w.heap.size by omega) _), (hL.setCell (Nat.le_refl _) _)⟩
    clear hX wB oB hL
    clear hlt hl2 k0 k1 k2 k3 k4 k5 k6 z0 z3 z4 z5 z6
    have wB := wB'
    have oB := oB'
    have hL := hL'
    clear wB' oB' hL'
    have hlt := wB.lt
    have hl2 := oB.lt
    obtain ⟨k0, k1, k2, k3, k4, k5, k6⟩ := blk7 wB
    have z0 := wB.free 0
    have z3 := wB.free 3
    have z4 := wB.free 4
    have z5 := wB.free 5
    have z6 := wB.free 6
    go_upto_region 9 with fail
    refine at_any ?_
    intro X hX
    obtain ⟨wB', oB', hL'⟩ : Blk X w.heap.size #[.int .u64 d, .int .u64 d, .int .u64 0, .int .u64 pp, .int .u64 18446744073709551615, .int .u64 0, .int .u64 0] 27 ∧ Blk X ob #[.int .u64 0, .int .u64 0, .int .u64 0, .int .u64 0, .int .u64 0, .int .u64 0, .int .u64 0] 27 ∧ Below w.heap.size w X := by
      subst hX
      exact ⟨(wB.set 4 (.int .u64 18446744073709551615)), (oB.other (show ob ≠ w.heap.size by omega) _), (hL.setCell (Nat.le_refl _) _)⟩
    clear hX wB oB hL
    clear hlt hl2 k0 k1 k2 k3 k4 k5 k6 z0 z3 z4 z5 z6
    have wB := wB'
    have oB := oB'
    have hL := hL'
    clear wB' oB' hL'
    have hlt := wB.lt
    have hl2 := oB.lt
    obtain ⟨k0, k1, k2, k3, k4, k5, k6⟩ := blk7 wB
    have z0 := wB.free 0
    have z3 := wB.free 3
    have z4 := wB.free 4
    have z5 := wB.free 5
    have z6 := wB.free 6
    go_wp2_with (refine wpl_store_row rfl 27 (.tmp 6) (.tmp 25) rfl oB #[.int .u64 d, .int .u64 d, .int .u64 0, .int .u64 pp, .int .u64 18446744073709551615, .int .u64 0, .int .u64 0] rfl rfl (by kernel_rfl) rfl (by simp [Value.oneCell']) ?_)
    refine bodyPost_ret (results_cell_row rfl _ _ ob 27 #[.int .u64 d, .int .u64 d, .int .u64 0, .int .u64 pp, .int .u64 18446744073709551615, .int .u64 0, .int .u64 0] (0, 0) _ rfl (oB.setRow _) Try.underlying27 rfl (by kernel_rfl)) rfl ?_
    exact ⟨rfl, below_setRow' hL (by omega)⟩
set_option maxHeartbeats 8000000 in
theorem grow_any (x : Wn) (hx : WFit x) (acked mss now smooth : Int) (ha : U acked) (hm : U mss) (hn : U now) (hs : U smooth) (w : World) :
    Calls Try.prog 21 #[.agg (wc x), .int .u64 acked, .int .u64 mss, .int .u64 now, .int .u64 smooth] w (WinPost w (growC x acked mss now smooth)) := by
  have CSl := fun V => slow_any x hx acked mss ha hm V
  have CB := fun V => begin_any x hx mss now hm hn V
  obtain ⟨hC, hT, hA, hP, hE, hK, hF⟩ := hx
  obtain ⟨c, t, a, p, e, k, f⟩ := x
  simp only at hC hT hA hP hE hK hF
  by_cases h1 : c < t
  · clear CB
    rw [show growC ⟨c, t, a, p, e, k, f⟩ acked mss now smooth = slowW ⟨c, t, a, p, e, k, f⟩ acked mss by unfold growC; rw [if_pos h1]]
    unfold WinPost at CSl ⊢
    generalize slowW ⟨c, t, a, p, e, k, f⟩ acked mss = sl at *
    obtain ⟨y0, y1, y2, y3, y4, y5, y6⟩ := sl
    unfold wc at CSl ⊢
    simp only at CSl ⊢
    unfold U at *
    go_enter Try.func21, Try.ntmps21
    go_upto_region 1 with fail
    refine at_any ?_
    intro W hW
    obtain ⟨wB, oB, hL⟩ : Blk W w.heap.size #[.int .u64 c, .int .u64 t, .int .u64 a, .int .u64 p, .int .u64 e, .int .u64 k, .int .u64 f] 27 ∧ Blk W (w.heap.size + 1) #[.int .u64 0, .int .u64 0, .int .u64 0, .int .u64 0, .int .u64 0, .int .u64 0, .int .u64 0] 27 ∧ Below w.heap.size w W := by
      have h1 := Blk.new w #[.int .u64 c, .int .u64 t, .int .u64 a, .int .u64 p, .int .u64 e, .int .u64 k, .int .u64 f] 27
      have h2 := Blk.new (w.alloc (.cells #[.int .u64 c, .int .u64 t, .int .u64 a, .int .u64 p, .int .u64 e, .int .u64 k, .int .u64 f] 27)) #[.int .u64 0, .int .u64 0, .int .u64 0, .int .u64 0, .int .u64 0, .int .u64 0, .int .u64 0] 27
      rw [World.size_alloc] at h2
      subst hW
      exact ⟨h1.alloc _, h2, ((Below.refl _ _).alloc (Nat.le_refl _) _).alloc (by simp) _⟩
    clear hW
    generalize hob : w.heap.size + 1 = ob at *
    have hlt := wB.lt
    have hl2 := oB.lt
    obtain ⟨k0, k1, k2, k3, k4, k5, k6⟩ := blk7 wB
    have z0 := wB.free 0
    have z3 := wB.free 3
    have z4 := wB.free 4
    have z5 := wB.free 5
    have z6 := wB.free 6
    go_wp2_with (first
      | (go_at_call 35; refine (CSl _).mono ?_; rintro e' y ⟨rfl, L1⟩; have oY := oB.below L1 hl2; have hY := Base.next hL L1)
      | (refine wpl_store_row rfl 27 (.tmp 10) (.tmp 20) rfl oY #[.int .u64 y0, .int .u64 y1, .int .u64 y2, .int .u64 y3, .int .u64 y4, .int .u64 y5, .int .u64 y6] rfl rfl (by kernel_rfl) rfl (by simp [Value.oneCell']) ?_))
    refine bodyPost_ret (results_cell_row rfl _ _ ob 27 #[.int .u64 y0, .int .u64 y1, .int .u64 y2, .int .u64 y3, .int .u64 y4, .int .u64 y5, .int .u64 y6] (0, 0) _ rfl (oY.setRow _) Try.underlying27 rfl (by kernel_rfl)) rfl ?_
    exact ⟨rfl, below_setRow' hY (by omega)⟩
  · clear CSl
    by_cases h2 : e = 18446744073709551615
    · subst h2
      have hb : beginC ⟨c, t, a, p, 18446744073709551615, k, f⟩ mss now = ⟨c, t, a, max p c, now, longC p c mss, c⟩ := by unfold beginC; rw [if_pos rfl]
      have hg0 : growC ⟨c, t, a, p, 18446744073709551615, k, f⟩ acked mss now smooth = if c = 0 then ⟨c, t, a, max p c, now, longC p c mss, c⟩ else goC ⟨c, t, a, max p c, now, longC p c mss, c⟩ acked mss now smooth := by unfold growC; rw [if_neg h1, hb]
      rw [hg0]
      clear hg0 hb hK hF hE
      have hK := longC_bd hP hC hm
      have hF := hC
      have hE := hn
      unfold WinPost wc at CB
      simp only at CB
      generalize longC p c mss = kk at *
      have hP' : U (max p c) := by unfold U at *; omega
      generalize max p c = pm at *
      have hP0 := hP
      replace hP := hP'
      clear hP'
      unfold WinPost
      by_cases h3 : c = 0
      · rw [if_pos h3]
        subst h3
        unfold wc
        simp only
        unfold U at *
        go_enter Try.func21, Try.ntmps21
        go_upto_region 1 with fail
        refine at_any ?_
        intro W hW
        obtain ⟨wB, oB, hL⟩ : Blk W w.heap.size #[.int .u64 0, .int .u64 t, .int .u64 a, .int .u64 p, .int .u64 18446744073709551615, .int .u64 k, .int .u64 f] 27 ∧ Blk W (w.heap.size + 1) #[.int .u64 0, .int .u64 0, .int .u64 0, .int .u64 0, .int .u64 0, .int .u64 0, .int .u64 0] 27 ∧ Below w.heap.size w W := by
          have h1 := Blk.new w #[.int .u64 0, .int .u64 t, .int .u64 a, .int .u64 p, .int .u64 18446744073709551615, .int .u64 k, .int .u64 f] 27
          have h2 := Blk.new (w.alloc (.cells #[.int .u64 0, .int .u64 t, .int .u64 a, .int .u64 p, .int .u64 18446744073709551615, .int .u64 k, .int .u64 f] 27)) #[.int .u64 0, .int .u64 0, .int .u64 0, .int .u64 0, .int .u64 0, .int .u64 0, .int .u64 0] 27
          rw [World.size_alloc] at h2
          subst hW
          exact ⟨h1.alloc _, h2, ((Below.refl _ _).alloc (Nat.le_refl _) _).alloc (by simp) _⟩
        clear hW
        generalize hob : w.heap.size + 1 = ob at *
        have hlt := wB.lt
        have hl2 := oB.lt
        obtain ⟨k0, k1, k2, k3, k4, k5, k6⟩ := blk7 wB
        have z0 := wB.free 0
        have z3 := wB.free 3
        have z4 := wB.free 4
        have z5 := wB.free 5
        have z6 := wB.free 6
        go_upto_region 5 with (first
          | (go_at_call 36; refine (CB _).mono ?_; rintro e' y ⟨rfl, L1⟩; replace wB := wB.below L1 hlt; replace oB := oB.below L1 hl2; replace hL := Base.next hL L1)
          | (refine wpl_store_row rfl 27 (.tmp 5) (.tmp 27) rfl wB #[.int .u64 0, .int .u64 t, .int .u64 a, .int .u64 pm, .int .u64 now, .int .u64 kk, .int .u64 0] rfl rfl (by kernel_rfl) rfl (by simp [Value.oneCell']) ?_))
        refine at_any ?_
        intro X hX
        obtain ⟨wB', oB', hL'⟩ : Blk X w.heap.size #[.int .u64 0, .int .u64 t, .int .u64 a, .int .u64 pm, .int .u64 now, .int .u64 kk, .int .u64 0] 27 ∧ Blk X ob #[.int .u64 0, .int .u64 0, .int .u64 0, .int .u64 0, .int .u64 0, .int .u64 0, .int .u64 0] 27 ∧ Below w.heap.size w X := by
          subst hX
          exact ⟨wB.setRow _, oB.otherRow (show ob ≠ w.heap.size by omega) _, below_setRow' hL (Nat.le_refl _)⟩
        clear hX wB oB hL
        clear hlt hl2 k0 k1 k2 k3 k4 k5 k6 z0 z3 z4 z5 z6
        have wB := wB'
        have oB := oB'
        have hL := hL'
        clear wB' oB' hL'
        have hlt := wB.lt
        have hl2 := oB.lt
        obtain ⟨k0, k1, k2, k3, k4, k5, k6⟩ := blk7 wB
        have z0 := wB.free 0
        have z3 := wB.free 3
        have z4 := wB.free 4
        have z5 := wB.free 5
        have z6 := wB.free 6
        go_wp2_with (refine wpl_store_row rfl 27 (.tmp 10) (.tmp 31) rfl oB #[.int .u64 0, .int .u64 t, .int .u64 a, .int .u64 pm, .int .u64 now, .int .u64 kk, .int .u64 0] rfl rfl (by kernel_rfl) rfl (by simp [Value.oneCell']) ?_)
        refine bodyPost_ret (results_cell_row rfl _ _ ob 27 #[.int .u64 0, .int .u64 t, .int .u64 a, .int .u64 pm, .int .u64 now, .int .u64 kk, .int .u64 0] (0, 0) _ rfl (oB.setRow _) Try.underlying27 rfl (by kernel_rfl)) rfl ?_
        exact ⟨rfl, below_setRow' hL (by omega)⟩
      · rw [if_neg h3]
        have CT := fun V => target_any ⟨c, t, a, pm, now, kk, c⟩ ⟨hC, hT, hA, hP, hE, hK, hF⟩ mss now smooth hm hn hs V
        have bAi := aimC_bd (w := ⟨c, t, a, pm, now, kk, c⟩) ⟨hC, hT, hA, hP, hE, hK, hF⟩ hm hn hs
        have hG : goC ⟨c, t, a, pm, now, kk, c⟩ acked mss now smooth = ⟨max (Sat.add c (Wide.down (aimC ⟨c, t, a, pm, now, kk, c⟩ mss now smooth - c) acked c)) (Sat.add c (if c < pm then Wide.down (Wide.down mss acked c) 9 17 else Wide.down mss acked c)), t, a, pm, now, kk, Sat.add c (if c < pm then Wide.down (Wide.down mss acked c) 9 17 else Wide.down mss acked c)⟩ := rfl
        rw [hG]
        clear hG
        simp only at bAi
        generalize aimC ⟨c, t, a, pm, now, kk, c⟩ mss now smooth = ai at *
        have eWr : IntKind.u64.wrap (ai - c) = ai - c := by rw [IntKind.wrap_u64]; unfold U at *; omega
        have CMo := fun V => Wide.down_any mss acked c hm.1 hm.2 ha.1 ha.2 hC.1 hC.2 V
        have bMo := down_bd (a := mss) (b := acked) (d := c) hm.1 ha.1 hC.1
        generalize Wide.down mss acked c = mo at *
        have CRi := fun V => Wide.down_any (ai - c) acked c (by unfold U at *; omega) (by unfold U at *; omega) ha.1 ha.2 hC.1 hC.2 V
        have bRi := down_bd (a := ai - c) (b := acked) (d := c) (by omega) ha.1 hC.1
        generalize Wide.down (ai - c) acked c = ri at *
        have CRs := fun V => Sat.add_any c ri hC.1 hC.2 bRi.1 bRi.2 V
        have bRs := Sat.add_bd hC.1 bRi.1
        generalize Sat.add c ri = ris at *
        have CF := fun V => fair_any ⟨ris, t, a, pm, now, kk, c⟩ ⟨bRs, hT, hA, hP, hE, hK, hF⟩ mo bMo V
        simp only at CF
        generalize Sat.add c (if c < pm then Wide.down mo 9 17 else mo) = q at *
        generalize hfn : max ris q = fin at *
        have HFn := Lib.hid hfn
        clear hfn
        unfold wc at CT CF ⊢
        simp only at CT CF ⊢
        unfold U at *
        go_enter Try.func21, Try.ntmps21
        go_upto_region 1 with fail
        refine at_any ?_
        intro W hW
        obtain ⟨wB, oB, hL⟩ : Blk W w.heap.size #[.int .u64 c, .int .u64 t, .int .u64 a, .int .u64 p, .int .u64 18446744073709551615, .int .u64 k, .int .u64 f] 27 ∧ Blk W (w.heap.size + 1) #[.int .u64 0, .int .u64 0, .int .u64 0, .int .u64 0, .int .u64 0, .int .u64 0, .int .u64 0] 27 ∧ Below w.heap.size w W := by
          have h1 := Blk.new w #[.int .u64 c, .int .u64 t, .int .u64 a, .int .u64 p, .int .u64 18446744073709551615, .int .u64 k, .int .u64 f] 27
          have h2 := Blk.new (w.alloc (.cells #[.int .u64 c, .int .u64 t, .int .u64 a, .int .u64 p, .int .u64 18446744073709551615, .int .u64 k, .int .u64 f] 27)) #[.int .u64 0, .int .u64 0, .int .u64 0, .int .u64 0, .int .u64 0, .int .u64 0, .int .u64 0] 27
          rw [World.size_alloc] at h2
          subst hW
          exact ⟨h1.alloc _, h2, ((Below.refl _ _).alloc (Nat.le_refl _) _).alloc (by simp) _⟩
        clear hW
        generalize hob : w.heap.size + 1 = ob at *
        have hlt := wB.lt
        have hl2 := oB.lt
        obtain ⟨k0, k1, k2, k3, k4, k5, k6⟩ := blk7 wB
        have z0 := wB.free 0
        have z3 := wB.free 3
        have z4 := wB.free 4
        have z5 := wB.free 5
        have z6 := wB.free 6
        go_upto_region 5 with (first
          | (go_at_call 36; refine (CB _).mono ?_; rintro e' y ⟨rfl, L1⟩; replace wB := wB.below L1 hlt; replace oB := oB.below L1 hl2; replace hL := Base.next hL L1)
          | (refine wpl_store_row rfl 27 (.tmp 5) (.tmp 27) rfl wB #[.int .u64 c, .int .u64 t, .int .u64 a, .int .u64 pm, .int .u64 now, .int .u64 kk, .int .u64 c] rfl rfl (by kernel_rfl) rfl (by simp [Value.oneCell']) ?_))
        refine at_any ?_
        intro X hX
        obtain ⟨wB', oB', hL'⟩ : Blk X w.heap.size #[.int .u64 c, .int .u64 t, .int .u64 a, .int .u64 pm, .int .u64 now, .int .u64 kk, .int .u64 c] 27 ∧ Blk X ob #[.int .u64 0, .int .u64 0, .int .u64 0, .int .u64 0, .int .u64 0, .int .u64 0, .int .u64 0] 27 ∧ Below w.heap.size w X := by
          subst hX
          exact ⟨wB.setRow _, oB.otherRow (show ob ≠ w.heap.size by omega) _, below_setRow' hL (Nat.le_refl _)⟩
        clear hX wB oB hL
        clear hlt hl2 k0 k1 k2 k3 k4 k5 k6 z0 z3 z4 z5 z6
        have wB := wB'
        have oB := oB'
        have hL := hL'
        clear wB' oB' hL'
        have hlt := wB.lt
        have hl2 := oB.lt
        obtain ⟨k0, k1, k2, k3, k4, k5, k6⟩ := blk7 wB
        have z0 := wB.free 0
        have z3 := wB.free 3
        have z4 := wB.free 4
        have z5 := wB.free 5
        have z6 := wB.free 6
        go_upto_region 9 with (first
          | (go_at_call 39; refine (CT _).mono ?_; rintro e' y ⟨rfl, L1⟩; replace wB := wB.below L1 hlt; replace oB := oB.below L1 hl2; replace hL := Base.next hL L1; have hlt := wB.lt; have hl2 := oB.lt; have k0 : y.cell? ⟨w.heap.size, 0, none⟩ = some (.int .u64 c) := wB.cell 0; have z0 := wB.free 0; have k1 : y.cell? ⟨w.heap.size, 1, none⟩ = some (.int .u64 t) := wB.cell 1; have z1 := wB.free 1; have k2 : y.cell? ⟨w.heap.size, 2, none⟩ = some (.int .u64 a) := wB.cell 2; have z2 := wB.free 2; have k3 : y.cell? ⟨w.heap.size, 3, none⟩ = some (.int .u64 pm) := wB.cell 3; have z3 := wB.free 3; have k4 : y.cell? ⟨w.heap.size, 4, none⟩ = some (.int .u64 now) := wB.cell 4; have z4 := wB.free 4; have k5 : y.cell? ⟨w.heap.size, 5, none⟩ = some (.int .u64 kk) := wB.cell 5; have z5 := wB.free 5; have k6 : y.cell? ⟨w.heap.size, 6, none⟩ = some (.int .u64 c) := wB.cell 6; have z6 := wB.free 6)
          | (go_at_call 38; refine (CRi _).mono ?_; rintro e' y ⟨rfl, L1⟩; replace wB := wB.below L1 hlt; replace oB := oB.below L1 hl2; replace hL := Base.next hL L1; have hlt := wB.lt; have hl2 := oB.lt; have k0 : y.cell? ⟨w.heap.size, 0, none⟩ = some (.int .u64 c) := wB.cell 0; have z0 := wB.free 0; have k1 : y.cell? ⟨w.heap.size, 1, none⟩ = some (.int .u64 t) := wB.cell 1; have z1 := wB.free 1; have k2 : y.cell? ⟨w.heap.size, 2, none⟩ = some (.int .u64 a) := wB.cell 2; have z2 := wB.free 2; have k3 : y.cell? ⟨w.heap.size, 3, none⟩ = some (.int .u64 pm) := wB.cell 3; have z3 := wB.free 3; have k4 : y.cell? ⟨w.heap.size, 4, none⟩ = some (.int .u64 now) := wB.cell 4; have z4 := wB.free 4; have k5 : y.cell? ⟨w.heap.size, 5, none⟩ = some (.int .u64 kk) := wB.cell 5; have z5 := wB.free 5; have k6 : y.cell? ⟨w.heap.size, 6, none⟩ = some (.int .u64 c) := wB.cell 6; have z6 := wB.free 6)
          | (go_at_call 37; refine (CRs _).mono ?_; rintro e' y ⟨rfl, rfl⟩))
        refine at_any ?_
        intro W hW
        obtain ⟨wB', oB', hL'⟩ : Blk W w.heap.size #[.int .u64 ris, .int .u64 t, .int .u64 a, .int .u64 pm, .int .u64 now, .int .u64 kk, .int .u64 c] 27 ∧ Blk W ob #[.int .u64 0, .int .u64 0, .int .u64 0, .int .u64 0, .int .u64 0, .int .u64 0, .int .u64 0] 27 ∧ Below w.heap.size w W := by
          subst hW
          exact ⟨(wB.set 0 (.int .u64 ris)), (oB.other (show ob ≠ w.heap.size by omega) _), (hL.setCell (Nat.le_refl _) _)⟩
        clear hW wB oB hL
        clear hlt hl2 k0 k1 k2 k3 k4 k5 k6 z0 z3 z4 z5 z6
        obtain ⟨k0, k1, k2, k3, k4, k5, k6⟩ := blk7 wB'
        have f0 := fun p : In (Lt W) => inCell p k0
        have f1 := fun p : In (Lt W) => inCell p k1
        have f2 := fun p : In (Lt W) => inCell p k2
        have f3 := fun p : In (Lt W) => inCell p k3
        have f4 := fun p : In (Lt W) => inCell p k4
        have f5 := fun p : In (Lt W) => inCell p k5
        have f6 := fun p : In (Lt W) => inCell p k6
        clear k0 k1 k2 k3 k4 k5 k6
        refine wp_region_rest (C := fun w' => ∃ p : In (Lt W), w' = p.w) 7 1 (by kernel_rfl) (by kernel_rfl) (by kernel_rfl) (by kernel_rfl) (by kernel_rfl) ⟨⟨W.drew, Lt.drew W⟩, rfl⟩ ?_
        simp only [List.toList_toArray, List.take_succ_cons, List.take_zero]
        repeat (go_big_quiet_step (first | (go_at_call 38; refine in_below (v := .int .u64 mo) ?_; exact CMo _) | (go_at_call 40; refine in_below (v := .int .u64 q) ?_; exact CF _)))
        refine wpQuiet_nil ?_
        rintro w5 ⟨⟨_, hw5⟩, rfl⟩
        have hw5 : Below W.heap.size W w5 := hw5
        clear f0 f1 f2 f3 f4 f5 f6 CMo CF
        have wB5 := wB'.below hw5 wB'.lt
        have oB5 := oB'.below hw5 oB'.lt
        have hl5 := oB5.lt
        refine wpAny_of_held (S := fun _ => True) _ _ _ _ ?_
        refine held_st (i := 7) rfl (by kernel_rfl) (by kernel_rfl) (st_cell (.tmp 53) (.tmp 52) rfl (g := w.heap.size) (i := 6) (n := q) (m := c) (by kernel_rfl) (by kernel_rfl) wB5 rfl) trivial ?_
        refine held_done (by kernel_rfl) ?_
        have wB : Blk (w5.setCell ⟨w.heap.size, 6, none⟩ (.int .u64 q)) w.heap.size #[.int .u64 ris, .int .u64 t, .int .u64 a, .int .u64 pm, .int .u64 now, .int .u64 kk, .int .u64 q] 27 := wB5.set 6 _
        have oB : Blk (w5.setCell ⟨w.heap.size, 6, none⟩ (.int .u64 q)) ob #[.int .u64 0, .int .u64 0, .int .u64 0, .int .u64 0, .int .u64 0, .int .u64 0, .int .u64 0] 27 := oB5.other (show ob ≠ w.heap.size by omega) _
        have hL : Below w.heap.size w (w5.setCell ⟨w.heap.size, 6, none⟩ (.int .u64 q)) := (Base.next hL' hw5).setCell (Nat.le_refl _) _
        clear wB5 oB5 hw5 wB' oB' hL' hl5
        generalize w5.setCell ⟨w.heap.size, 6, none⟩ (.int .u64 q) = W6 at *
        have hlt := wB.lt
        have hl2 := oB.lt
        obtain ⟨k0, k1, k2, k3, k4, k5, k6⟩ := blk7 wB
        have z0 := wB.free 0
        have z3 := wB.free 3
        have z4 := wB.free 4
        have z5 := wB.free 5
        have z6 := wB.free 6
        go_upto_region 11 with (refine wpl_value (v := .int .u64 fin) rfl (by rw [← HFn.out]; exact mx_u64 (.tmp 55) (.tmp 57) _ (n := ris) (m := q) rfl rfl rfl) ?_)
        refine at_any ?_
        intro X hX
        obtain ⟨wB', oB', hL'⟩ : Blk X w.heap.size #[.int .u64 fin, .int .u64 t, .int .u64 a, .int .u64 pm, .int .u64 now, .int .u64 kk, .int .u64 q] 27 ∧ Blk X ob #[.int .u64 0, .int .u64 0, .int .u64 0, .int .u64 0, .int .u64 0, .int .u64 0, .int .u64 0] 27 ∧ Below w.heap.size w X := by
          subst hX
          exact ⟨(wB.set 0 (.int .u64 fin)), (oB.other (show ob ≠ w.heap.size by omega) _), (hL.setCell (Nat.le_refl _) _)⟩
        clear hX wB oB hL
        clear hlt hl2 k0 k1 k2 k3 k4 k5 k6 z0 z3 z4 z5 z6
        have wB := wB'
        have oB := oB'
        have hL := hL'
        clear wB' oB' hL'
        have hlt := wB.lt
        have hl2 := oB.lt
        obtain ⟨k0, k1, k2, k3, k4, k5, k6⟩ := blk7 wB
        have z0 := wB.free 0
        have z3 := wB.free 3
        have z4 := wB.free 4
        have z5 := wB.free 5
        have z6 := wB.free 6
        go_wp2_with (refine wpl_store_row rfl 27 (.tmp 10) (.tmp 60) rfl oB #[.int .u64 fin, .int .u64 t, .int .u64 a, .int .u64 pm, .int .u64 now, .int .u64 kk, .int .u64 q] rfl rfl (by kernel_rfl) rfl (by simp [Value.oneCell']) ?_)
        refine bodyPost_ret (results_cell_row rfl _ _ ob 27 #[.int .u64 fin, .int .u64 t, .int .u64 a, .int .u64 pm, .int .u64 now, .int .u64 kk, .int .u64 q] (0, 0) _ rfl (oB.setRow _) Try.underlying27 rfl (by kernel_rfl)) rfl ?_
        exact ⟨rfl, below_setRow' hL (by omega)⟩
    · have h2' : (e == 18446744073709551615) = false := by simpa using h2
      have hb : beginC ⟨c, t, a, p, e, k, f⟩ mss now = ⟨c, t, a, p, e, k, f⟩ := by unfold beginC; rw [if_neg h2]
      have hg0 : growC ⟨c, t, a, p, e, k, f⟩ acked mss now smooth = if c = 0 then ⟨c, t, a, p, e, k, f⟩ else goC ⟨c, t, a, p, e, k, f⟩ acked mss now smooth := by unfold growC; rw [if_neg h1, hb]
      rw [hg0]
      clear hg0 hb CB
      unfold WinPost
      by_cases h3 : c = 0
      · rw [if_pos h3]
        subst h3
        unfold wc
        simp only
        unfold U at *
        go_enter Try.func21, Try.ntmps21
        go_upto_region 1 with fail
        refine at_any ?_
        intro W hW
        obtain ⟨wB, oB, hL⟩ : Blk W w.heap.size #[.int .u64 0, .int .u64 t, .int .u64 a, .int .u64 p, .int .u64 e, .int .u64 k, .int .u64 f] 27 ∧ Blk W (w.heap.size + 1) #[.int .u64 0, .int .u64 0, .int .u64 0, .int .u64 0, .int .u64 0, .int .u64 0, .int .u64 0] 27 ∧ Below w.heap.size w W := by
          have h1 := Blk.new w #[.int .u64 0, .int .u64 t, .int .u64 a, .int .u64 p, .int .u64 e, .int .u64 k, .int .u64 f] 27
          have h2 := Blk.new (w.alloc (.cells #[.int .u64 0, .int .u64 t, .int .u64 a, .int .u64 p, .int .u64 e, .int .u64 k, .int .u64 f] 27)) #[.int .u64 0, .int .u64 0, .int .u64 0, .int .u64 0, .int .u64 0, .int .u64 0, .int .u64 0] 27
          rw [World.size_alloc] at h2
          subst hW
          exact ⟨h1.alloc _, h2, ((Below.refl _ _).alloc (Nat.le_refl _) _).alloc (by simp) _⟩
        clear hW
        generalize hob : w.heap.size + 1 = ob at *
        have hlt := wB.lt
        have hl2 := oB.lt
        obtain ⟨k0, k1, k2, k3, k4, k5, k6⟩ := blk7 wB
        have z0 := wB.free 0
        have z3 := wB.free 3
        have z4 := wB.free 4
        have z5 := wB.free 5
        have z6 := wB.free 6
        go_wp2_with (refine wpl_store_row rfl 27 (.tmp 10) (.tmp 31) rfl oB #[.int .u64 0, .int .u64 t, .int .u64 a, .int .u64 p, .int .u64 e, .int .u64 k, .int .u64 f] rfl rfl (by kernel_rfl) rfl (by simp [Value.oneCell']) ?_)
        refine bodyPost_ret (results_cell_row rfl _ _ ob 27 #[.int .u64 0, .int .u64 t, .int .u64 a, .int .u64 p, .int .u64 e, .int .u64 k, .int .u64 f] (0, 0) _ rfl (oB.setRow _) Try.underlying27 rfl (by kernel_rfl)) rfl ?_
        exact ⟨rfl, below_setRow' hL (by omega)⟩
      · rw [if_neg h3]
        have CT := fun V => target_any ⟨c, t, a, p, e, k, f⟩ ⟨hC, hT, hA, hP, hE, hK, hF⟩ mss now smooth hm hn hs V
        have bAi := aimC_bd (w := ⟨c, t, a, p, e, k, f⟩) ⟨hC, hT, hA, hP, hE, hK, hF⟩ hm hn hs
        have hG : goC ⟨c, t, a, p, e, k, f⟩ acked mss now smooth = ⟨max (Sat.add c (Wide.down (aimC ⟨c, t, a, p, e, k, f⟩ mss now smooth - c) acked c)) (Sat.add f (if f < p then Wide.down (Wide.down mss acked c) 9 17 else Wide.down mss acked c)), t, a, p, e, k, Sat.add f (if f < p then Wide.down (Wide.down mss acked c) 9 17 else Wide.down mss acked c)⟩ := rfl
        rw [hG]
        clear hG
        simp only at bAi
        generalize aimC ⟨c, t, a, p, e, k, f⟩ mss now smooth = ai at *
        have eWr : IntKind.u64.wrap (ai - c) = ai - c := by rw [IntKind.wrap_u64]; unfold U at *; omega
        have CMo := fun V => Wide.down_any mss acked c hm.1 hm.2 ha.1 ha.2 hC.1 hC.2 V
        have bMo := down_bd (a := mss) (b := acked) (d := c) hm.1 ha.1 hC.1
        generalize Wide.down mss acked c = mo at *
        have CRi := fun V => Wide.down_any (ai - c) acked c (by unfold U at *; omega) (by unfold U at *; omega) ha.1 ha.2 hC.1 hC.2 V
        have bRi := down_bd (a := ai - c) (b := acked) (d := c) (by omega) ha.1 hC.1
        generalize Wide.down (ai - c) acked c = ri at *
        have CRs := fun V => Sat.add_any c ri hC.1 hC.2 bRi.1 bRi.2 V
        have bRs := Sat.add_bd hC.1 bRi.1
        generalize Sat.add c ri = ris at *
        have CF := fun V => fair_any ⟨ris, t, a, p, e, k, f⟩ ⟨bRs, hT, hA, hP, hE, hK, hF⟩ mo bMo V
        simp only at CF
        generalize Sat.add f (if f < p then Wide.down mo 9 17 else mo) = q at *
        generalize hfn : max ris q = fin at *
        have HFn := Lib.hid hfn
        clear hfn
        unfold wc at CT CF ⊢
        simp only at CT CF ⊢
        unfold U at *
        go_enter Try.func21, Try.ntmps21
        go_upto_region 1 with fail
        refine at_any ?_
        intro W hW
        obtain ⟨wB, oB, hL⟩ : Blk W w.heap.size #[.int .u64 c, .int .u64 t, .int .u64 a, .int .u64 p, .int .u64 e, .int .u64 k, .int .u64 f] 27 ∧ Blk W (w.heap.size + 1) #[.int .u64 0, .int .u64 0, .int .u64 0, .int .u64 0, .int .u64 0, .int .u64 0, .int .u64 0] 27 ∧ Below w.heap.size w W := by
          have h1 := Blk.new w #[.int .u64 c, .int .u64 t, .int .u64 a, .int .u64 p, .int .u64 e, .int .u64 k, .int .u64 f] 27
          have h2 := Blk.new (w.alloc (.cells #[.int .u64 c, .int .u64 t, .int .u64 a, .int .u64 p, .int .u64 e, .int .u64 k, .int .u64 f] 27)) #[.int .u64 0, .int .u64 0, .int .u64 0, .int .u64 0, .int .u64 0, .int .u64 0, .int .u64 0] 27
          rw [World.size_alloc] at h2
          subst hW
          exact ⟨h1.alloc _, h2, ((Below.refl _ _).alloc (Nat.le_refl _) _).alloc (by simp) _⟩
        clear hW
        generalize hob : w.heap.size + 1 = ob at *
        have hlt := wB.lt
        have hl2 := oB.lt
        obtain ⟨k0, k1, k2, k3, k4, k5, k6⟩ := blk7 wB
        have z0 := wB.free 0
        have z3 := wB.free 3
        have z4 := wB.free 4
        have z5 := wB.free 5
        have z6 := wB.free 6
        go_upto_region 9 with (first
          | (go_at_call 39; refine (CT _).mono ?_; rintro e' y ⟨rfl, L1⟩; replace wB := wB.below L1 hlt; replace oB := oB.below L1 hl2; replace hL := Base.next hL L1; have hlt := wB.lt; have hl2 := oB.lt; have k0 : y.cell? ⟨w.heap.size, 0, none⟩ = some (.int .u64 c) := wB.cell 0; have z0 := wB.free 0; have k1 : y.cell? ⟨w.heap.size, 1, none⟩ = some (.int .u64 t) := wB.cell 1; have z1 := wB.free 1; have k2 : y.cell? ⟨w.heap.size, 2, none⟩ = some (.int .u64 a) := wB.cell 2; have z2 := wB.free 2; have k3 : y.cell? ⟨w.heap.size, 3, none⟩ = some (.int .u64 p) := wB.cell 3; have z3 := wB.free 3; have k4 : y.cell? ⟨w.heap.size, 4, none⟩ = some (.int .u64 e) := wB.cell 4; have z4 := wB.free 4; have k5 : y.cell? ⟨w.heap.size, 5, none⟩ = some (.int .u64 k) := wB.cell 5; have z5 := wB.free 5; have k6 : y.cell? ⟨w.heap.size, 6, none⟩ = some (.int .u64 f) := wB.cell 6; have z6 := wB.free 6)
          | (go_at_call 38; refine (CRi _).mono ?_; rintro e' y ⟨rfl, L1⟩; replace wB := wB.below L1 hlt; replace oB := oB.below L1 hl2; replace hL := Base.next hL L1; have hlt := wB.lt; have hl2 := oB.lt; have k0 : y.cell? ⟨w.heap.size, 0, none⟩ = some (.int .u64 c) := wB.cell 0; have z0 := wB.free 0; have k1 : y.cell? ⟨w.heap.size, 1, none⟩ = some (.int .u64 t) := wB.cell 1; have z1 := wB.free 1; have k2 : y.cell? ⟨w.heap.size, 2, none⟩ = some (.int .u64 a) := wB.cell 2; have z2 := wB.free 2; have k3 : y.cell? ⟨w.heap.size, 3, none⟩ = some (.int .u64 p) := wB.cell 3; have z3 := wB.free 3; have k4 : y.cell? ⟨w.heap.size, 4, none⟩ = some (.int .u64 e) := wB.cell 4; have z4 := wB.free 4; have k5 : y.cell? ⟨w.heap.size, 5, none⟩ = some (.int .u64 k) := wB.cell 5; have z5 := wB.free 5; have k6 : y.cell? ⟨w.heap.size, 6, none⟩ = some (.int .u64 f) := wB.cell 6; have z6 := wB.free 6)
          | (go_at_call 37; refine (CRs _).mono ?_; rintro e' y ⟨rfl, rfl⟩))
        refine at_any ?_
        intro W hW
        obtain ⟨wB', oB', hL'⟩ : Blk W w.heap.size #[.int .u64 ris, .int .u64 t, .int .u64 a, .int .u64 p, .int .u64 e, .int .u64 k, .int .u64 f] 27 ∧ Blk W ob #[.int .u64 0, .int .u64 0, .int .u64 0, .int .u64 0, .int .u64 0, .int .u64 0, .int .u64 0] 27 ∧ Below w.heap.size w W := by
          subst hW
          exact ⟨(wB.set 0 (.int .u64 ris)), (oB.other (show ob ≠ w.heap.size by omega) _), (hL.setCell (Nat.le_refl _) _)⟩
        clear hW wB oB hL
        clear hlt hl2 k0 k1 k2 k3 k4 k5 k6 z0 z3 z4 z5 z6
        obtain ⟨k0, k1, k2, k3, k4, k5, k6⟩ := blk7 wB'
        have f0 := fun p : In (Lt W) => inCell p k0
        have f1 := fun p : In (Lt W) => inCell p k1
        have f2 := fun p : In (Lt W) => inCell p k2
        have f3 := fun p : In (Lt W) => inCell p k3
        have f4 := fun p : In (Lt W) => inCell p k4
        have f5 := fun p : In (Lt W) => inCell p k5
        have f6 := fun p : In (Lt W) => inCell p k6
        clear k0 k1 k2 k3 k4 k5 k6
        refine wp_region_rest (C := fun w' => ∃ p : In (Lt W), w' = p.w) 7 1 (by kernel_rfl) (by kernel_rfl) (by kernel_rfl) (by kernel_rfl) (by kernel_rfl) ⟨⟨W.drew, Lt.drew W⟩, rfl⟩ ?_
        simp only [List.toList_toArray, List.take_succ_cons, List.take_zero]
        repeat (go_big_quiet_step (first | (go_at_call 38; refine in_below (v := .int .u64 mo) ?_; exact CMo _) | (go_at_call 40; refine in_below (v := .int .u64 q) ?_; exact CF _)))
        refine wpQuiet_nil ?_
        rintro w5 ⟨⟨_, hw5⟩, rfl⟩
        have hw5 : Below W.heap.size W w5 := hw5
        clear f0 f1 f2 f3 f4 f5 f6 CMo CF
        have wB5 := wB'.below hw5 wB'.lt
        have oB5 := oB'.below hw5 oB'.lt
        have hl5 := oB5.lt
        refine wpAny_of_held (S := fun _ => True) _ _ _ _ ?_
        refine held_st (i := 7) rfl (by kernel_rfl) (by kernel_rfl) (st_cell (.tmp 53) (.tmp 52) rfl (g := w.heap.size) (i := 6) (n := q) (m := f) (by kernel_rfl) (by kernel_rfl) wB5 rfl) trivial ?_
        refine held_done (by kernel_rfl) ?_
        have wB : Blk (w5.setCell ⟨w.heap.size, 6, none⟩ (.int .u64 q)) w.heap.size #[.int .u64 ris, .int .u64 t, .int .u64 a, .int .u64 p, .int .u64 e, .int .u64 k, .int .u64 q] 27 := wB5.set 6 _
        have oB : Blk (w5.setCell ⟨w.heap.size, 6, none⟩ (.int .u64 q)) ob #[.int .u64 0, .int .u64 0, .int .u64 0, .int .u64 0, .int .u64 0, .int .u64 0, .int .u64 0] 27 := oB5.other (show ob ≠ w.heap.size by omega) _
        have hL : Below w.heap.size w (w5.setCell ⟨w.heap.size, 6, none⟩ (.int .u64 q)) := (Base.next hL' hw5).setCell (Nat.le_refl _) _
        clear wB5 oB5 hw5 wB' oB' hL' hl5
        generalize w5.setCell ⟨w.heap.size, 6, none⟩ (.int .u64 q) = W6 at *
        have hlt := wB.lt
        have hl2 := oB.lt
        obtain ⟨k0, k1, k2, k3, k4, k5, k6⟩ := blk7 wB
        have z0 := wB.free 0
        have z3 := wB.free 3
        have z4 := wB.free 4
        have z5 := wB.free 5
        have z6 := wB.free 6
        go_upto_region 11 with (refine wpl_value (v := .int .u64 fin) rfl (by rw [← HFn.out]; exact mx_u64 (.tmp 55) (.tmp 57) _ (n := ris) (m := q) rfl rfl rfl) ?_)
        refine at_any ?_
        intro X hX
        obtain ⟨wB', oB', hL'⟩ : Blk X w.heap.size #[.int .u64 fin, .int .u64 t, .int .u64 a, .int .u64 p, .int .u64 e, .int .u64 k, .int .u64 q] 27 ∧ Blk X ob #[.int .u64 0, .int .u64 0, .int .u64 0, .int .u64 0, .int .u64 0, .int .u64 0, .int .u64 0] 27 ∧ Below w.heap.size w X := by
          subst hX
          exact ⟨(wB.set 0 (.int .u64 fin)), (oB.other (show ob ≠ w.heap.size by omega) _), (hL.setCell (Nat.le_refl _) _)⟩
        clear hX wB oB hL
        clear hlt hl2 k0 k1 k2 k3 k4 k5 k6 z0 z3 z4 z5 z6
        have wB := wB'
        have oB := oB'
        have hL := hL'
        clear wB' oB' hL'
        have hlt := wB.lt
        have hl2 := oB.lt
        obtain ⟨k0, k1, k2, k3, k4, k5, k6⟩ := blk7 wB
        have z0 := wB.free 0
        have z3 := wB.free 3
        have z4 := wB.free 4
        have z5 := wB.free 5
        have z6 := wB.free 6
        go_wp2_with (refine wpl_store_row rfl 27 (.tmp 10) (.tmp 60) rfl oB #[.int .u64 fin, .int .u64 t, .int .u64 a, .int .u64 p, .int .u64 e, .int .u64 k, .int .u64 q] rfl rfl (by kernel_rfl) rfl (by simp [Value.oneCell']) ?_)
        refine bodyPost_ret (results_cell_row rfl _ _ ob 27 #[.int .u64 fin, .int .u64 t, .int .u64 a, .int .u64 p, .int .u64 e, .int .u64 k, .int .u64 q] (0, 0) _ rfl (oB.setRow _) Try.underlying27 rfl (by kernel_rfl)) rfl ?_
        exact ⟨rfl, below_setRow' hL (by omega)⟩
end Go.Proofs.Ytnnpklnhdfpnjaa.Cubic
