/-
  The program's Reno windows by contract.
-/
import Derived.Test.YtnnpklnhdfpnjaaRenoRef
set_option linter.unusedSimpArgs false
set_option linter.unusedVariables false
namespace Go.Proofs.Ytnnpklnhdfpnjaa.Reno
set_option linter.unusedVariables false
set_option maxRecDepth 20000
open Go.ChangeShapes Go.WideShapes Go.ChangeAt Go.RowKit
open Go.Proofs.Ytnnpklnhdfpnjaa.Base Go.Proofs.Ytnnpklnhdfpnjaa.RenoPlain Go.Proofs.Ytnnpklnhdfpnjaa.Hop

set_option maxHeartbeats 1000000 in
theorem slow_any (x : Wn) (hx : WFit x) (acked mss : Int) (ha : U acked) (hm : U mss) (w : World) :
    Calls Try.prog 35 #[.agg (wc x), .int .u64 acked, .int .u64 mss] w (WinPost w (slowW x acked mss)) := by
  have hC := hx.cw
  obtain ⟨c, t, a, p, e, k, f⟩ := x
  unfold slowW WinPost wc
  simp only at hC ⊢
  have CM := fun V => Sat.mul_any 2 mss (by decide) (by decide) hm.1 hm.2 V
  have hmm := mul_bd (show (0 : Int) ≤ 2 by decide) hm.1
  generalize Sat.mul 2 mss = mm at *
  have CA := fun V => Sat.add_any c (min acked mm) hC.1 hC.2 (by unfold U at *; omega) (by unfold U at *; omega) V
  generalize Sat.add c (min acked mm) = c' at *
  have emin : (if mm < acked then mm else acked) = min acked mm := by split <;> omega
  go_enter Try.func35, Try.ntmps35
  go_upto_region 1 with fail
  refine at_any ?_
  intro W hW
  obtain ⟨wB, oB, hL⟩ : Blk W w.heap.size #[.int .u64 c, .int .u64 t, .int .u64 a, .int .u64 p, .int .u64 e, .int .u64 k, .int .u64 f] 27 ∧ Blk W (w.heap.size + 1) #[.int .u64 0, .int .u64 0, .int .u64 0, .int .u64 0, .int .u64 0, .int .u64 0, .int .u64 0] 27 ∧ Below w.heap.size w W := by
    have h1 := Blk.new w #[.int .u64 c, .int .u64 t, .int .u64 a, .int .u64 p, .int .u64 e, .int .u64 k, .int .u64 f] 27
    have h2 := Blk.new (w.alloc (.cells #[.int .u64 c, .int .u64 t, .int .u64 a, .int .u64 p, .int .u64 e, .int .u64 k, .int .u64 f] 27)) #[.int .u64 0, .int .u64 0, .int .u64 0, .int .u64 0, .int .u64 0, .int .u64 0, .int .u64 0] 27
    rw [World.size_alloc] at h2
    subst hW
    exact ⟨h1.alloc _, h2, ((Below.refl _ _).alloc (Nat.le_refl _) _).alloc (by simp) _⟩
  clear hW
  generalize hob : w.heap.size + 1 = ob at *
  have hlt := wB.lt
  have hl2 := oB.lt
  obtain ⟨k0, k1, k2, k3, k4, k5, k6⟩ := blk7 wB
  have f0 := fun p : In (Lt W) => inCell p k0
  clear k0 k1 k2 k3 k4 k5 k6
  refine wp_region_rest (C := fun w' => ∃ p : In (Lt W), w' = p.w) 8 1 (by kernel_rfl) (by kernel_rfl) (by kernel_rfl) (by kernel_rfl) (by kernel_rfl) ⟨⟨W.drew, Lt.drew W⟩, rfl⟩ ?_
  simp only [List.toList_toArray, List.take_succ_cons, List.take_zero]
  repeat (go_big_quiet_step (first | (go_at_call 57; refine in_same (v := .int .u64 mm) ?_; exact CM _) | (go_at_call 37; refine in_same (v := .int .u64 c') ?_; exact CA _)))
  refine wpQuiet_nil ?_
  rintro w5 ⟨⟨_, hw5⟩, rfl⟩
  have hw5 : Below W.heap.size W w5 := hw5
  clear f0 CM CA
  have wB5 := wB.below hw5 hlt
  have oB5 := oB.below hw5 hl2
  refine wpAny_of_held (S := fun _ => True) _ _ _ _ ?_
  refine held_st (i := 8) rfl (by kernel_rfl) (by kernel_rfl) (st_cell (.tmp 14) (.tmp 13) rfl (g := w.heap.size) (i := 0) (n := c') (m := c) (by kernel_rfl) (by kernel_rfl) wB5 rfl) trivial ?_
  refine held_done (by kernel_rfl) ?_
  have wB6 : Blk (w5.setCell ⟨w.heap.size, 0, none⟩ (.int .u64 c')) w.heap.size #[.int .u64 c', .int .u64 t, .int .u64 a, .int .u64 p, .int .u64 e, .int .u64 k, .int .u64 f] 27 := wB5.set 0 _
  have oB6 : Blk (w5.setCell ⟨w.heap.size, 0, none⟩ (.int .u64 c')) ob #[.int .u64 0, .int .u64 0, .int .u64 0, .int .u64 0, .int .u64 0, .int .u64 0, .int .u64 0] 27 := oB5.other (show ob ≠ w.heap.size by omega) _
  have hL6 : Below w.heap.size w (w5.setCell ⟨w.heap.size, 0, none⟩ (.int .u64 c')) := (Base.next hL hw5).setCell (Nat.le_refl _) _
  generalize w5.setCell ⟨w.heap.size, 0, none⟩ (.int .u64 c') = W6 at *
  obtain ⟨k0, k1, k2, k3, k4, k5, k6⟩ := blk7 wB6
  have hlt6 := wB6.lt
  go_wp2_with (refine wpl_store_row rfl 27 (.tmp 6) (.tmp 15) rfl oB6 #[.int .u64 c', .int .u64 t, .int .u64 a, .int .u64 p, .int .u64 e, .int .u64 k, .int .u64 f] rfl rfl (by kernel_rfl) rfl (by simp [Value.oneCell']) ?_)
  refine bodyPost_ret (results_cell_row rfl _ _ ob 27 #[.int .u64 c', .int .u64 t, .int .u64 a, .int .u64 p, .int .u64 e, .int .u64 k, .int .u64 f] (0, 0) _ rfl (oB6.setRow _) Try.underlying27 rfl (by kernel_rfl)) rfl ?_
  exact ⟨rfl, below_setRow' hL6 (by omega)⟩
set_option maxHeartbeats 2000000 in
theorem grow_any (x : Wn) (hx : WFit x) (acked mss : Int) (ha : U acked) (hm : U mss) (w : World) :
    Calls Try.prog 22 #[.agg (wc x), .int .u64 acked, .int .u64 mss] w (WinPost w (growR x acked mss)) := by
  have CSl := fun V => slow_any x hx acked mss ha hm V
  have hC := hx.cw
  have hA := hx.ac
  have hT := hx.th
  obtain ⟨c, t, a, p, e, k, f⟩ := x
  unfold growR WinPost
  unfold WinPost at CSl
  generalize hsl : slowW ⟨c, t, a, p, e, k, f⟩ acked mss = sl at *
  clear hsl
  obtain ⟨y0, y1, y2, y3, y4, y5, y6⟩ := sl
  unfold wc at CSl ⊢
  simp only at hC hA hT CSl ⊢
  have CA := fun V => Sat.add_any a acked hA.1 hA.2 ha.1 ha.2 V
  have CB := fun V => Sat.add_any c mss hC.1 hC.2 hm.1 hm.2 V
  have hs := Sat.add_bd hA.1 ha.1
  generalize Sat.add a acked = a' at *
  generalize Sat.add c mss = c' at *
  unfold U at hC hA hT
  by_cases h1 : c < t
  · rw [if_pos h1]
    go_enter Try.func22, Try.ntmps22
    go_upto_region 1 with fail
    refine at_any ?_
    intro W hW
    obtain ⟨wB, oB, hL⟩ : Blk W w.heap.size #[.int .u64 c, .int .u64 t, .int .u64 a, .int .u64 p, .int .u64 e, .int .u64 k, .int .u64 f] 27 ∧ Blk W (w.heap.size + 1) #[.int .u64 0, .int .u64 0, .int .u64 0, .int .u64 0, .int .u64 0, .int .u64 0, .int .u64 0] 27 ∧ Below w.heap.size w W := by
      have h1 := Blk.new w #[.int .u64 c, .int .u64 t, .int .u64 a, .int .u64 p, .int .u64 e, .int .u64 k, .int .u64 f] 27
      have h2 := Blk.new (w.alloc (.cells #[.int .u64 c, .int .u64 t, .int .u64 a, .int .u64 p, .int .u64 e, .int .u64 k, .int .u64 f] 27)) #[.int .u64 0, .int .u64 0, .int .u64 0, .int .u64 0, .int .u64 0, .int .u64 0, .int .u64 0] 27
      rw [World.size_alloc] at h2
      subst hW
      exact ⟨h1.alloc _, h2, ((Below.refl _ _).alloc (Nat.le_refl _) _).alloc (by simp) _⟩
    clear hW
    generalize hob : w.heap.size + 1 = ob at *
    have hlt := wB.lt
    have hl2 := oB.lt
    obtain ⟨k0, k1, k2, k3, k4, k5, k6⟩ := blk7 wB
    have z0 := wB.free 0
    have z1 := wB.free 1
    have z2 := wB.free 2
    go_wp2_with (first
      | (go_at_call 35; refine (CSl _).mono ?_; rintro e' y ⟨rfl, L1⟩; have oY := oB.below L1 hl2; have hY := Base.next hL L1)
      | (refine wpl_store_row rfl 27 (.tmp 6) (.tmp 15) rfl oY #[.int .u64 y0, .int .u64 y1, .int .u64 y2, .int .u64 y3, .int .u64 y4, .int .u64 y5, .int .u64 y6] rfl rfl (by kernel_rfl) rfl (by simp [Value.oneCell']) ?_))
    refine bodyPost_ret (results_cell_row rfl _ _ ob 27 #[.int .u64 y0, .int .u64 y1, .int .u64 y2, .int .u64 y3, .int .u64 y4, .int .u64 y5, .int .u64 y6] (0, 0) _ rfl (oY.setRow _) Try.underlying27 rfl (by kernel_rfl)) rfl ?_
    exact ⟨rfl, below_setRow' hY (by omega)⟩
  · rw [if_neg h1]
    by_cases h2 : c ≤ a'
    · rw [if_pos h2]
      go_enter Try.func22, Try.ntmps22
      go_upto_region 1 with fail
      refine at_any ?_
      intro W hW
      obtain ⟨wB, oB, hL⟩ : Blk W w.heap.size #[.int .u64 c, .int .u64 t, .int .u64 a, .int .u64 p, .int .u64 e, .int .u64 k, .int .u64 f] 27 ∧ Blk W (w.heap.size + 1) #[.int .u64 0, .int .u64 0, .int .u64 0, .int .u64 0, .int .u64 0, .int .u64 0, .int .u64 0] 27 ∧ Below w.heap.size w W := by
        have h1 := Blk.new w #[.int .u64 c, .int .u64 t, .int .u64 a, .int .u64 p, .int .u64 e, .int .u64 k, .int .u64 f] 27
        have h2 := Blk.new (w.alloc (.cells #[.int .u64 c, .int .u64 t, .int .u64 a, .int .u64 p, .int .u64 e, .int .u64 k, .int .u64 f] 27)) #[.int .u64 0, .int .u64 0, .int .u64 0, .int .u64 0, .int .u64 0, .int .u64 0, .int .u64 0] 27
        rw [World.size_alloc] at h2
        subst hW
        exact ⟨h1.alloc _, h2, ((Below.refl _ _).alloc (Nat.le_refl _) _).alloc (by simp) _⟩
      clear hW
      generalize hob : w.heap.size + 1 = ob at *
      have hlt := wB.lt
      have hl2 := oB.lt
      obtain ⟨k0, k1, k2, k3, k4, k5, k6⟩ := blk7 wB
      have z0 := wB.free 0
      have z1 := wB.free 1
      have z2 := wB.free 2
      go_upto_region 4 with (go_at_call 37; refine (CA _).mono ?_; rintro e' y ⟨rfl, rfl⟩)
      refine at_any ?_
      intro X hX
      obtain ⟨wB', oB', hL'⟩ : Blk X w.heap.size #[.int .u64 c, .int .u64 t, .int .u64 a', .int .u64 p, .int .u64 e, .int .u64 k, .int .u64 f] 27 ∧ Blk X ob #[.int .u64 0, .int .u64 0, .int .u64 0, .int .u64 0, .int .u64 0, .int .u64 0, .int .u64 0] 27 ∧ Below w.heap.size w X := by
        subst hX
        exact ⟨(wB.set 2 (.int .u64 a')), (oB.other (show ob ≠ w.heap.size by omega) _), (hL.setCell (Nat.le_refl _) _)⟩
      clear hX wB oB hL
      clear hlt hl2 k0 k1 k2 k3 k4 k5 k6 z0 z1 z2
      have wB := wB'
      have oB := oB'
      have hL := hL'
      clear wB' oB' hL'
      have hlt := wB.lt
      have hl2 := oB.lt
      obtain ⟨k0, k1, k2, k3, k4, k5, k6⟩ := blk7 wB
      have z0 := wB.free 0
      have z1 := wB.free 1
      have z2 := wB.free 2
      go_upto_region 6 with fail
      refine at_any ?_
      intro Y hY
      obtain ⟨wB', oB', hL'⟩ : Blk Y w.heap.size #[.int .u64 c, .int .u64 t, .int .u64 (a' - c), .int .u64 p, .int .u64 e, .int .u64 k, .int .u64 f] 27 ∧ Blk Y ob #[.int .u64 0, .int .u64 0, .int .u64 0, .int .u64 0, .int .u64 0, .int .u64 0, .int .u64 0] 27 ∧ Below w.heap.size w Y := by
        subst hY
        exact ⟨(wB.set 2 (.int .u64 (a' - c))), (oB.other (show ob ≠ w.heap.size by omega) _), (hL.setCell (Nat.le_refl _) _)⟩
      clear hY wB oB hL
      clear hlt hl2 k0 k1 k2 k3 k4 k5 k6 z0 z1 z2
      have wB := wB'
      have oB := oB'
      have hL := hL'
      clear wB' oB' hL'
      have hlt := wB.lt
      have hl2 := oB.lt
      obtain ⟨k0, k1, k2, k3, k4, k5, k6⟩ := blk7 wB
      have z0 := wB.free 0
      have z1 := wB.free 1
      have z2 := wB.free 2
      go_upto_region 7 with (go_at_call 37; refine (CB _).mono ?_; rintro e' y ⟨rfl, rfl⟩)
      refine at_any ?_
      intro Z hZ
      obtain ⟨wB', oB', hL'⟩ : Blk Z w.heap.size #[.int .u64 c', .int .u64 t, .int .u64 (a' - c), .int .u64 p, .int .u64 e, .int .u64 k, .int .u64 f] 27 ∧ Blk Z ob #[.int .u64 0, .int .u64 0, .int .u64 0, .int .u64 0, .int .u64 0, .int .u64 0, .int .u64 0] 27 ∧ Below w.heap.size w Z := by
        subst hZ
        exact ⟨(wB.set 0 (.int .u64 c')), (oB.other (show ob ≠ w.heap.size by omega) _), (hL.setCell (Nat.le_refl _) _)⟩
      clear hZ wB oB hL
      clear hlt hl2 k0 k1 k2 k3 k4 k5 k6 z0 z1 z2
      have wB := wB'
      have oB := oB'
      have hL := hL'
      clear wB' oB' hL'
      have hlt := wB.lt
      have hl2 := oB.lt
      obtain ⟨k0, k1, k2, k3, k4, k5, k6⟩ := blk7 wB
      have z0 := wB.free 0
      have z1 := wB.free 1
      have z2 := wB.free 2
      go_wp2_with (refine wpl_store_row rfl 27 (.tmp 6) (.tmp 37) rfl oB #[.int .u64 c', .int .u64 t, .int .u64 (a' - c), .int .u64 p, .int .u64 e, .int .u64 k, .int .u64 f] rfl rfl (by kernel_rfl) rfl (by simp [Value.oneCell']) ?_)
      refine bodyPost_ret (results_cell_row rfl _ _ ob 27 #[.int .u64 c', .int .u64 t, .int .u64 (a' - c), .int .u64 p, .int .u64 e, .int .u64 k, .int .u64 f] (0, 0) _ rfl (oB.setRow _) Try.underlying27 rfl (by kernel_rfl)) rfl ?_
      exact ⟨rfl, below_setRow' hL (by omega)⟩
    · rw [if_neg h2]
      go_enter Try.func22, Try.ntmps22
      go_upto_region 1 with fail
      refine at_any ?_
      intro W hW
      obtain ⟨wB, oB, hL⟩ : Blk W w.heap.size #[.int .u64 c, .int .u64 t, .int .u64 a, .int .u64 p, .int .u64 e, .int .u64 k, .int .u64 f] 27 ∧ Blk W (w.heap.size + 1) #[.int .u64 0, .int .u64 0, .int .u64 0, .int .u64 0, .int .u64 0, .int .u64 0, .int .u64 0] 27 ∧ Below w.heap.size w W := by
        have h1 := Blk.new w #[.int .u64 c, .int .u64 t, .int .u64 a, .int .u64 p, .int .u64 e, .int .u64 k, .int .u64 f] 27
        have h2 := Blk.new (w.alloc (.cells #[.int .u64 c, .int .u64 t, .int .u64 a, .int .u64 p, .int .u64 e, .int .u64 k, .int .u64 f] 27)) #[.int .u64 0, .int .u64 0, .int .u64 0, .int .u64 0, .int .u64 0, .int .u64 0, .int .u64 0] 27
        rw [World.size_alloc] at h2
        subst hW
        exact ⟨h1.alloc _, h2, ((Below.refl _ _).alloc (Nat.le_refl _) _).alloc (by simp) _⟩
      clear hW
      generalize hob : w.heap.size + 1 = ob at *
      have hlt := wB.lt
      have hl2 := oB.lt
      obtain ⟨k0, k1, k2, k3, k4, k5, k6⟩ := blk7 wB
      have z0 := wB.free 0
      have z1 := wB.free 1
      have z2 := wB.free 2
      go_upto_region 4 with (go_at_call 37; refine (CA _).mono ?_; rintro e' y ⟨rfl, rfl⟩)
      refine at_any ?_
      intro X hX
      obtain ⟨wB', oB', hL'⟩ : Blk X w.heap.size #[.int .u64 c, .int .u64 t, .int .u64 a', .int .u64 p, .int .u64 e, .int .u64 k, .int .u64 f] 27 ∧ Blk X ob #[.int .u64 0, .int .u64 0, .int .u64 0, .int .u64 0, .int .u64 0, .int .u64 0, .int .u64 0] 27 ∧ Below w.heap.size w X := by
        subst hX
        exact ⟨(wB.set 2 (.int .u64 a')), (oB.other (show ob ≠ w.heap.size by omega) _), (hL.setCell (Nat.le_refl _) _)⟩
      clear hX wB oB hL
      clear hlt hl2 k0 k1 k2 k3 k4 k5 k6 z0 z1 z2
      have wB := wB'
      have oB := oB'
      have hL := hL'
      clear wB' oB' hL'
      have hlt := wB.lt
      have hl2 := oB.lt
      obtain ⟨k0, k1, k2, k3, k4, k5, k6⟩ := blk7 wB
      have z0 := wB.free 0
      have z1 := wB.free 1
      have z2 := wB.free 2
      go_wp2_with (refine wpl_store_row rfl 27 (.tmp 6) (.tmp 37) rfl oB #[.int .u64 c, .int .u64 t, .int .u64 a', .int .u64 p, .int .u64 e, .int .u64 k, .int .u64 f] rfl rfl (by kernel_rfl) rfl (by simp [Value.oneCell']) ?_)
      refine bodyPost_ret (results_cell_row rfl _ _ ob 27 #[.int .u64 c, .int .u64 t, .int .u64 a', .int .u64 p, .int .u64 e, .int .u64 k, .int .u64 f] (0, 0) _ rfl (oB.setRow _) Try.underlying27 rfl (by kernel_rfl)) rfl ?_
      exact ⟨rfl, below_setRow' hL (by omega)⟩
set_option maxHeartbeats 2000000 in
theorem cut_any (x : Wn) (hx : WFit x) (num den : Int) (ha : U num) (hm : U den) (w : World) :
    Calls Try.prog 54 #[.agg (wc x), .int .u64 num, .int .u64 den] w (WinPost w (cutR x num den)) := by
  have hC := hx.cw
  obtain ⟨c, t, a, p, e, k, f⟩ := x
  unfold cutR WinPost wc
  simp only at hC ⊢
  have CD := fun V => Wide.down_any c num den hC.1 hC.2 ha.1 ha.2 hm.1 hm.2 V
  generalize Wide.down c num den = d at *
  go_enter Try.func54, Try.ntmps54
  go_upto_region 1 with fail
  refine at_any ?_
  intro W hW
  obtain ⟨wB, oB, hL⟩ : Blk W w.heap.size #[.int .u64 c, .int .u64 t, .int .u64 a, .int .u64 p, .int .u64 e, .int .u64 k, .int .u64 f] 27 ∧ Blk W (w.heap.size + 1) #[.int .u64 0, .int .u64 0, .int .u64 0, .int .u64 0, .int .u64 0, .int .u64 0, .int .u64 0] 27 ∧ Below w.heap.size w W := by
    have h1 := Blk.new w #[.int .u64 c, .int .u64 t, .int .u64 a, .int .u64 p, .int .u64 e, .int .u64 k, .int .u64 f] 27
    have h2 := Blk.new (w.alloc (.cells #[.int .u64 c, .int .u64 t, .int .u64 a, .int .u64 p, .int .u64 e, .int .u64 k, .int .u64 f] 27)) #[.int .u64 0, .int .u64 0, .int .u64 0, .int .u64 0, .int .u64 0, .int .u64 0, .int .u64 0] 27
    rw [World.size_alloc] at h2
    subst hW
    exact ⟨h1.alloc _, h2, ((Below.refl _ _).alloc (Nat.le_refl _) _).alloc (by simp) _⟩
  clear hW
  generalize hob : w.heap.size + 1 = ob at *
  have hlt := wB.lt
  have hl2 := oB.lt
  obtain ⟨k0, k1, k2, k3, k4, k5, k6⟩ := blk7 wB
  have z0 := wB.free 0
  have z1 := wB.free 1
  have z2 := wB.free 2
  go_upto_region 2 with (go_at_call 38; refine (CD _).mono ?_; rintro e' y ⟨rfl, L1⟩; replace wB := wB.below L1 hlt; replace oB := oB.below L1 hl2; replace hL := Base.next hL L1; have k0 : y.cell? ⟨w.heap.size, 0, none⟩ = some (.int .u64 c) := wB.cell 0; have z0 := wB.free 0)
  refine at_any ?_
  intro X hX
  obtain ⟨wB', oB', hL'⟩ : Blk X w.heap.size #[.int .u64 d, .int .u64 t, .int .u64 a, .int .u64 p, .int .u64 e, .int .u64 k, .int .u64 f] 27 ∧ Blk X ob #[.int .u64 0, .int .u64 0, .int .u64 0, .int .u64 0, .int .u64 0, .int .u64 0, .int .u64 0] 27 ∧ Below w.heap.size w X := by
    subst hX
    exact ⟨(wB.set 0 (.int .u64 d)), (oB.other (show ob ≠ w.heap.size by omega) _), (hL.setCell (Nat.le_refl _) _)⟩
  clear hX wB oB hL
  clear hlt hl2 k0 k1 k2 k3 k4 k5 k6 z0 z1 z2
  have wB := wB'
  have oB := oB'
  have hL := hL'
  clear wB' oB' hL'
  have hlt := wB.lt
  have hl2 := oB.lt
  obtain ⟨k0, k1, k2, k3, k4, k5, k6⟩ := blk7 wB
  have z0 := wB.free 0
  have z1 := wB.free 1
  have z2 := wB.free 2
  go_upto_region 3 with fail
  refine at_any ?_
  intro Y hY
  obtain ⟨wB', oB', hL'⟩ : Blk Y w.heap.size #[.int .u64 d, .int .u64 d, .int .u64 a, .int .u64 p, .int .u64 e, .int .u64 k, .int .u64 f] 27 ∧ Blk Y ob #[.int .u64 0, .int .u64 0, .int .u64 0, .int .u64 0, .int .u64 0, .int .u64 0, .int .u64 0] 27 ∧ Below w.heap.size w Y := by
    subst hY
    exact ⟨(wB.set 1 (.int .u64 d)), (oB.other (show ob ≠ w.heap.size by omega) _), (hL.setCell (Nat.le_refl _) _)⟩
  clear hY wB oB hL
  clear hlt hl2 k0 k1 k2 k3 k4 k5 k6 z0 z1 z2
  have wB := wB'
  have oB := oB'
  have hL := hL'
  clear wB' oB' hL'
  have hlt := wB.lt
  have hl2 := oB.lt
  obtain ⟨k0, k1, k2, k3, k4, k5, k6⟩ := blk7 wB
  have z0 := wB.free 0
  have z1 := wB.free 1
  have z2 := wB.free 2
  go_upto_region 4 with fail
  refine at_any ?_
  intro Z hZ
  obtain ⟨wB', oB', hL'⟩ : Blk Z w.heap.size #[.int .u64 d, .int .u64 d, .int .u64 0, .int .u64 p, .int .u64 e, .int .u64 k, .int .u64 f] 27 ∧ Blk Z ob #[.int .u64 0, .int .u64 0, .int .u64 0, .int .u64 0, .int .u64 0, .int .u64 0, .int .u64 0] 27 ∧ Below w.heap.size w Z := by
    subst hZ
    exact ⟨(wB.set 2 (.int .u64 0)), (oB.other (show ob ≠ w.heap.size by omega) _), (hL.setCell (Nat.le_refl _) _)⟩
  clear hZ wB oB hL
  clear hlt hl2 k0 k1 k2 k3 k4 k5 k6 z0 z1 z2
  have wB := wB'
  have oB := oB'
  have hL := hL'
  clear wB' oB' hL'
  have hlt := wB.lt
  have hl2 := oB.lt
  obtain ⟨k0, k1, k2, k3, k4, k5, k6⟩ := blk7 wB
  have z0 := wB.free 0
  have z1 := wB.free 1
  have z2 := wB.free 2
  go_wp2_with (refine wpl_store_row rfl 27 (.tmp 6) (.tmp 17) rfl oB #[.int .u64 d, .int .u64 d, .int .u64 0, .int .u64 p, .int .u64 e, .int .u64 k, .int .u64 f] rfl rfl (by kernel_rfl) rfl (by simp [Value.oneCell']) ?_)
  refine bodyPost_ret (results_cell_row rfl _ _ ob 27 #[.int .u64 d, .int .u64 d, .int .u64 0, .int .u64 p, .int .u64 e, .int .u64 k, .int .u64 f] (0, 0) _ rfl (oB.setRow _) Try.underlying27 rfl (by kernel_rfl)) rfl ?_
  exact ⟨rfl, below_setRow' hL (by omega)⟩
end Go.Proofs.Ytnnpklnhdfpnjaa.Reno
