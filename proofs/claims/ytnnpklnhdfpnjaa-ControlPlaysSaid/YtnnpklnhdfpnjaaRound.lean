/-
  The program's rounds by contract.
-/
import Derived.Test.YtnnpklnhdfpnjaaRoundRef
import Derived.Test.YtnnpklnhdfpnjaaFlat
import Derived.Test.YtnnpklnhdfpnjaaTail2
import Derived.Test.YtnnpklnhdfpnjaaHeld
import Derived.Test.YtnnpklnhdfpnjaaIn
set_option linter.unusedSimpArgs false
set_option linter.unusedVariables false
namespace Go.Proofs.Ytnnpklnhdfpnjaa.Round
set_option linter.unusedVariables false
set_option maxRecDepth 20000
open Go.ChangeShapes Go.WideShapes Go.ChangeAt Go.RowKit
open Go.Proofs.Ytnnpklnhdfpnjaa.Base Go.Proofs.Ytnnpklnhdfpnjaa.RoundPlain Go.Proofs.Ytnnpklnhdfpnjaa.Hop

theorem fresh_any (r : Rd) (hr : DFit r) (pn : Int) (p0 : 0 ≤ pn) (p1 : pn ≤ 18446744073709551615) (w : World) :
    Calls Try.prog 68 #[.agg #[.int .u64 r.end_, .int .u64 r.cuts], .int .u64 pn] w fun x w' => x = .returned (.bool (freshP r pn)) ∧ Below w.heap.size w w' := by
  obtain ⟨e, c⟩ := r
  unfold freshP
  simp only
  go_enter Try.func68, Try.ntmps68
  go_upto_region 1 with fail
  refine at_any ?_
  intro W hW
  obtain ⟨rB, hL⟩ : Blk W w.heap.size #[.int .u64 e, .int .u64 c] 29 ∧ Below w.heap.size w W := by
    subst hW
    exact ⟨Blk.new _ _ _, (Below.refl _ _).alloc (Nat.le_refl _) _⟩
  clear hW
  have k0 : W.cell? ⟨w.heap.size, 0, none⟩ = some (.int .u64 e) := rB.cell 0
  go_wp2
  all_goals go_ret
  all_goals exact ⟨rfl, hL⟩
/-- One more, but at most Top. -/
theorem grown_any (x : Int) (x0 : 0 ≤ x) (x1 : x ≤ 18446744073709551615) (w : World) :
    Calls Try.prog 69 #[.int .u64 x] w fun e w' => e = .returned (.int .u64 (Sat.add x 1)) ∧ w = w' := by
  have hv : min x 18446744073709551614 + 1 = Sat.add x 1 := by unfold Sat.add; split <;> omega
  have hw : IntKind.u64.wrap (min x 18446744073709551614 + 1) = min x 18446744073709551614 + 1 := by rw [IntKind.wrap_u64]; omega
  rw [← hv]
  clear hv
  go_enter Try.func69, Try.ntmps69
  go_wp2_with (refine wpl_value (v := .int .u64 (min x 18446744073709551614)) rfl (mn_u64 (.tmp 3) (.const (.int .u64 18446744073709551614)) _ (n := x) (m := 18446744073709551614) rfl rfl rfl) ?_)
  go_ret
  exact ⟨rfl, rfl⟩
set_option maxHeartbeats 2000000 in
theorem begin_any (r : Rd) (hr : DFit r) (pn next : Int) (p0 : 0 ≤ pn) (p1 : pn ≤ 18446744073709551615) (n0 : 0 ≤ next) (n1 : next ≤ 18446744073709551615) (w : World) :
    Calls Try.prog 49 #[.agg #[.int .u64 r.end_, .int .u64 r.cuts], .int .u64 pn, .int .u64 next] w fun x w' => x = .returned (.tuple #[.agg #[.int .u64 (beginP r pn next).end_, .int .u64 (beginP r pn next).cuts], .bool (freshP r pn)]) ∧ Below w.heap.size w w' := by
  have CF := fun V => fresh_any r hr pn p0 p1 V
  obtain ⟨e0, e1, c0, c1⟩ := hr
  obtain ⟨e, c⟩ := r
  simp only at e0 e1 c0 c1 CF
  have CA := fun V => grown_any pn p0 p1 V
  have CC := fun V => grown_any c c0 c1 V
  have emax : (if next < Sat.add pn 1 then Sat.add pn 1 else next) = endP pn next := by
    unfold endP Sat.add
    split <;> split <;> split <;> omega
  have emax2 : max next (Sat.add pn 1) = endP pn next := by
    unfold endP Sat.add
    split <;> split <;> omega
  unfold freshP at CF ⊢
  have H2 : (e ≤ pn ∧ beginP ⟨e, c⟩ pn next = ⟨endP pn next, Sat.add c 1⟩ ∧ decide (e ≤ pn) = true) ∨ (¬ e ≤ pn ∧ beginP ⟨e, c⟩ pn next = ⟨e, c⟩ ∧ decide (e ≤ pn) = false) := by
    by_cases h : e ≤ pn
    · exact .inl ⟨h, begin_yes (r := ⟨e, c⟩) h, decide_eq_true h⟩
    · exact .inr ⟨h, begin_no (r := ⟨e, c⟩) h, decide_eq_false h⟩
  simp only at CF ⊢
  rcases H2 with ⟨h, q, d⟩ | ⟨h, q, d⟩
  all_goals rw [q, d]
  all_goals rw [d] at CF
  all_goals clear q d
  all_goals generalize endP pn next = E at *
  all_goals generalize Sat.add pn 1 = A at *
  all_goals generalize Sat.add c 1 = C at *
  all_goals (
    go_enter Try.func49, Try.ntmps49
    go_upto_region 1 with fail
    refine at_any ?_
    intro W hW
    obtain ⟨rB, oB, hL⟩ : Blk W w.heap.size #[.int .u64 e, .int .u64 c] 29 ∧ Blk W (w.heap.size + 1) #[.int .u64 0, .int .u64 0] 29 ∧ Below w.heap.size w W := by
      have h1 := Blk.new w #[.int .u64 e, .int .u64 c] 29
      have h2 := Blk.new (w.alloc (.cells #[.int .u64 e, .int .u64 c] 29)) #[.int .u64 0, .int .u64 0] 29
      rw [World.size_alloc] at h2
      subst hW
      exact ⟨h1.alloc _, h2, ((Below.refl _ _).alloc (Nat.le_refl _) _).alloc (by simp) _⟩
    clear hW
    generalize hob : w.heap.size + 1 = ob at *
    have k0 : W.cell? ⟨w.heap.size, 0, none⟩ = some (.int .u64 e) := rB.cell 0
    have k1 : W.cell? ⟨w.heap.size, 1, none⟩ = some (.int .u64 c) := rB.cell 1
    have hlt := rB.lt
    have hl2 := oB.lt)
  · go_upto_region 3 with (go_at_call 68; refine (CF _).mono ?_; rintro x y1 ⟨rfl, L1⟩; have j1 := keepCell L1 k1; have oY := oB.below L1 oB.lt; have hM := Base.next hL L1; have hg : w.heap.size ≤ ob := by omega)
    have f1 := fun p : In (Lt y1) => inCell p j1
    refine wp_region_rest (C := fun w' => ∃ p : In (Lt y1), w' = p.w) 8 2 (by kernel_rfl) (by kernel_rfl) (by kernel_rfl) (by kernel_rfl) (by kernel_rfl) ⟨⟨y1.drew, Lt.drew y1⟩, rfl⟩ ?_
    simp only [List.toList_toArray, List.take_succ_cons, List.take_zero]
    repeat (go_big_quiet_step (first | (go_at_call 69; refine in_same (v := .int .u64 A) ?_; exact CA _) | (go_at_call 69; refine in_same (v := .int .u64 C) ?_; exact CC _)))
    refine wpQuiet_nil ?_
    rintro w5 ⟨⟨_, hw5⟩, rfl⟩
    have hw5 : Below y1.heap.size y1 w5 := hw5
    have oB5 := oY.below hw5 oY.lt
    refine wpAny_of_held (S := fun _ => True) _ _ _ _ ?_
    refine held_st (i := 8) rfl (by kernel_rfl) (by kernel_rfl) (st_row 29 (.tmp 6) (.tmp 20) rfl (g := ob) (cells := #[.int .u64 E, .int .u64 C]) (by kernel_rfl) (by kernel_rfl) oB5 (by kernel_rfl) rfl (by simp [Value.oneCell'])) trivial ?_
    refine held_one (i := 9) (v := .bool true) (w' := w5.setRow ob #[.int .u64 E, .int .u64 C]) rfl (by kernel_rfl) (by kernel_rfl) (by kernel_rfl) trivial ?_
    refine held_done (by kernel_rfl) ?_
    go_wp2
    refine bodyPost_ret (results_rowR rfl _ _ ob 29 #[.int .u64 E, .int .u64 C] _ rfl (oB5.setRow _) Try.underlying29 rfl (by kernel_rfl)) rfl ?_
    exact ⟨rfl, below_setRow' (Base.next hM hw5) hg⟩
  · go_wp2_with (first
      | (go_at_call 68; refine (CF _).mono ?_; rintro x y1 ⟨rfl, L1⟩; have j0 := keepCell L1 k0; have j1 := keepCell L1 k1; have s1 := L1.size; have oY := oB.below L1 oB.lt)
      | (refine wpl_store_row rfl 29 (.tmp 6) (.tmp 12) rfl oY #[.int .u64 e, .int .u64 c] rfl rfl (by kernel_rfl) rfl (by simp [Value.oneCell']) ?_))
    refine bodyPost_ret (results_rowR rfl _ _ ob 29 #[.int .u64 e, .int .u64 c] _ rfl (oY.setRow _) Try.underlying29 rfl (by kernel_rfl)) rfl ?_
    exact ⟨rfl, below_setRow' (Base.next hL L1) (by omega)⟩
end Go.Proofs.Ytnnpklnhdfpnjaa.Round
