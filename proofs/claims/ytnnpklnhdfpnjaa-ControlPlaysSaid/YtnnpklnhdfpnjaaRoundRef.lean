/-
  The reference's rounds by contract.
-/
import Derived.Test.YtnnpklnhdfpnjaaRoundPlain
import Derived.Test.YtnnpklnhdfpnjaaSatShl
import Derived.Test.YtnnpklnhdfpnjaaHop
import Derived.Test.YtnnpklnhdfpnjaaPlus
import Derived.Test.YtnnpklnhdfpnjaaMin3
import Derived.Lib.Hide
import Derived.BigQuiet
import Derived.Deep.QuietTactic
import Derived.Outline
import Derived.Deep.CutBlock
import Derived.Deep.DeepCutAuto
set_option linter.unusedSimpArgs false
set_option linter.unusedVariables false
namespace Go.Proofs.Ytnnpklnhdfpnjaa.Round
set_option linter.unusedVariables false
set_option maxRecDepth 20000
open Go.ChangeShapes Go.WideShapes Go.ChangeAt Go.RowKit
open Go.Proofs.Ytnnpklnhdfpnjaa.Base Go.Proofs.Ytnnpklnhdfpnjaa.RoundPlain Go.Proofs.Ytnnpklnhdfpnjaa.Hop

theorem ref_fresh (e c pn : Int) (w : World) :
    Calls Try.prog 50 #[.agg #[.int .u64 e, .int .u64 c], .int .u64 pn] w fun x w' => x = .returned (.bool (decide (e ≤ pn))) ∧ Below w.heap.size w w' := by
  go_enter Try.func50, Try.ntmps50
  go_upto_region 1 with fail
  refine at_any ?_
  intro W hW
  obtain ⟨rB, hL⟩ : Blk W w.heap.size #[.int .u64 e, .int .u64 c] 29 ∧ Below w.heap.size w W := by
    subst hW
    exact ⟨Blk.new _ _ _, (Below.refl _ _).alloc (Nat.le_refl _) _⟩
  clear hW
  have k0 : W.cell? ⟨w.heap.size, 0, none⟩ = some (.int .u64 e) := rB.cell 0
  have hlt := rB.lt
  go_wp2
  all_goals go_ret
  all_goals exact ⟨rfl, hL⟩
theorem results_rowR {P : Program} {fn : Func} {p u : Tmp} {ty : TypeId} (h : fn.results = #[.cell p ty, .tmp u]) (tmps : Array Value) (w : World) (g : Nat) (t : TypeId) (cs : Array Value) (d : TypeDesc)
    (hp : tmps.getD p undef = .pointer (some ⟨g, 0, none⟩)) (hg : Blk w g cs t)
    (hu : P.underlying ty = some d) (hd : (match d with | .struct _ | .array _ _ => true | _ => false) = true) (hi : (P.info? ty).map (·.size) = some cs.size) :
    (results fn tmps).run P w = .ok (.tuple #[.agg cs, tmps.getD u undef]) w := by
  rw [results_cell_tmp h, hp]
  simp [asAddr, run_loadVar_row w g t ty cs (0, 0) d hg hu hd hi]
set_option maxHeartbeats 2000000 in
theorem ref_begin (r : Rd) (hr : DFit r) (pn next : Int) (p0 : 0 ≤ pn) (p1 : pn ≤ 18446744073709551615) (n0 : 0 ≤ next) (n1 : next ≤ 18446744073709551615) (w : World) :
    Calls Try.prog 30 #[.agg #[.int .u64 r.end_, .int .u64 r.cuts], .int .u64 pn, .int .u64 next] w fun x w' => x = .returned (.tuple #[.agg #[.int .u64 (beginP r pn next).end_, .int .u64 (beginP r pn next).cuts], .bool (freshP r pn)]) ∧ Below w.heap.size w w' := by
  obtain ⟨e0, e1, c0, c1⟩ := hr
  obtain ⟨e, c⟩ := r
  simp only at e0 e1 c0 c1
  have CF := fun V => ref_fresh e c pn V
  have CA := fun V => Sat.ref_add pn 1 p0 p1 (by decide) (by decide) V
  have CC := fun V => Sat.ref_add c 1 c0 c1 (by decide) (by decide) V
  unfold freshP
  have H3 : (e ≤ pn ∧ next ≤ pn ∧ beginP ⟨e, c⟩ pn next = ⟨Sat.add pn 1, Sat.add c 1⟩ ∧ decide (e ≤ pn) = true) ∨ (e ≤ pn ∧ ¬ next ≤ pn ∧ beginP ⟨e, c⟩ pn next = ⟨next, Sat.add c 1⟩ ∧ decide (e ≤ pn) = true) ∨ (¬ e ≤ pn ∧ ¬ e ≤ pn ∧ beginP ⟨e, c⟩ pn next = ⟨e, c⟩ ∧ decide (e ≤ pn) = false) := by
    by_cases h : e ≤ pn
    · by_cases h2 : next ≤ pn
      · exact .inl ⟨h, h2, by rw [begin_yes (r := ⟨e, c⟩) h, endP, if_pos h2], decide_eq_true h⟩
      · exact .inr (.inl ⟨h, h2, by rw [begin_yes (r := ⟨e, c⟩) h, endP, if_neg h2], decide_eq_true h⟩)
    · exact .inr (.inr ⟨h, h, begin_no (r := ⟨e, c⟩) h, decide_eq_false h⟩)
  simp only
  rcases H3 with ⟨h, h2, q, d⟩ | ⟨h, h2, q, d⟩ | ⟨h, h2, q, d⟩
  all_goals rw [q, d]
  all_goals rw [d] at CF
  all_goals clear q d
  all_goals generalize Sat.add pn 1 = A at *
  all_goals generalize Sat.add c 1 = C at *
  all_goals (
    go_enter Try.func30, Try.ntmps30
    go_upto_region 1 with fail
    refine at_any ?_
    intro W hW
    obtain ⟨rB, oB, hL⟩ : Blk W w.heap.size #[.int .u64 e, .int .u64 c] 29 ∧ Blk W (w.heap.size + 1) #[.int .u64 0, .int .u64 0] 29 ∧ Below w.heap.size w W := by
      have h1 := Blk.new w #[.int .u64 e, .int .u64 c] 29
      have h2 := Blk.new (w.alloc (.cells #[.int .u64 e, .int .u64 c] 29)) #[.int .u64 0, .int .u64 0] 29
      rw [World.size_alloc] at h2
      subst hW
      exact ⟨h1.alloc _, h2, ((Below.refl _ _).alloc (Nat.le_refl _) _).alloc (by simp) _⟩
    clear hW
    have k0 : W.cell? ⟨w.heap.size, 0, none⟩ = some (.int .u64 e) := rB.cell 0
    have k1 : W.cell? ⟨w.heap.size, 1, none⟩ = some (.int .u64 c) := rB.cell 1
    have hlt := rB.lt
    have hl2 := oB.lt)
  · go_wp2_with (first
      | (go_at_call 50; refine (CF _).mono ?_; rintro e y1 ⟨rfl, L1⟩; have j0 := keepCell L1 k0; have j1 := keepCell L1 k1; have s1 := L1.size; have oY := oB.below L1 oB.lt)
      | (go_at_call 44; (with_reducible refine (CA _).mono ?_); rintro e y2 ⟨rfl, rfl⟩)
      | (go_at_call 44; (with_reducible refine (CC _).mono ?_); rintro e y3 ⟨rfl, rfl⟩)
      | (refine wpl_store_row rfl 29 (.tmp 6) (.tmp 24) rfl oY #[.int .u64 A, .int .u64 C] rfl rfl (by kernel_rfl) rfl (by simp [Value.oneCell']) ?_))
    refine bodyPost_ret (results_rowR rfl _ _ (w.heap.size + 1) 29 #[.int .u64 A, .int .u64 C] _ rfl (oY.setRow _) Try.underlying29 rfl (by kernel_rfl)) rfl ?_
    exact ⟨rfl, below_setRow' (Base.next hL L1) (by omega)⟩
  · go_wp2_with (first
      | (go_at_call 50; refine (CF _).mono ?_; rintro e y1 ⟨rfl, L1⟩; have j0 := keepCell L1 k0; have j1 := keepCell L1 k1; have s1 := L1.size; have oY := oB.below L1 oB.lt)
      | (go_at_call 44; (with_reducible refine (CC _).mono ?_); rintro e y3 ⟨rfl, rfl⟩)
      | (refine wpl_store_row rfl 29 (.tmp 6) (.tmp 24) rfl oY #[.int .u64 next, .int .u64 C] rfl rfl (by kernel_rfl) rfl (by simp [Value.oneCell']) ?_))
    refine bodyPost_ret (results_rowR rfl _ _ (w.heap.size + 1) 29 #[.int .u64 next, .int .u64 C] _ rfl (oY.setRow _) Try.underlying29 rfl (by kernel_rfl)) rfl ?_
    exact ⟨rfl, below_setRow' (Base.next hL L1) (by omega)⟩
  · go_wp2_with (first
      | (go_at_call 50; refine (CF _).mono ?_; rintro e' y1 ⟨rfl, L1⟩; have j0 := keepCell L1 k0; have j1 := keepCell L1 k1; have s1 := L1.size; have oY := oB.below L1 oB.lt)
      | (refine wpl_store_row rfl 29 (.tmp 6) (.tmp 13) rfl oY #[.int .u64 e, .int .u64 c] rfl rfl (by kernel_rfl) rfl (by simp [Value.oneCell']) ?_))
    refine bodyPost_ret (results_rowR rfl _ _ (w.heap.size + 1) 29 #[.int .u64 e, .int .u64 c] _ rfl (oY.setRow _) Try.underlying29 rfl (by kernel_rfl)) rfl ?_
    exact ⟨rfl, below_setRow' (Base.next hL L1) (by omega)⟩
end Go.Proofs.Ytnnpklnhdfpnjaa.Round
